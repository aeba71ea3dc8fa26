import Derived.Test.YtfemleimkbjehaaYM
import Derived.Test.YtfemleimkbjehaaJ40
import Derived.BigQuiet
import Derived.Test.YtfemleimkbjehaaJ35
import Derived.Deep.CutBlock
set_option maxRecDepth 1000000
set_option maxHeartbeats 40000000
set_option linter.unusedVariables false
set_option linter.unusedSimpArgs false
namespace Go.Proofs.Ytfemleimkbjehaa
open Go.RowKit
def ch1 (ns : List Nd) (W : Nat) (gs : List Gv) (n e s : Nat) : Nat := (inV ns gs n e s).length + if (qV ns n).kind == 6 then spN (qV ns n).k W (inV ns gs n e s) else 0
def ch2 (ns : List Nd) (R W : Nat) (gs : List Gv) (n e : Nat) : Nat := kQ (ch1 ns W gs n e) R
def ch3 (ns : List Nd) (R W : Nat) (gs : List Gv) (n : Nat) : Nat := kQ (ch2 ns R W gs n) 6
theorem chN_eq (ns : List Nd) (R W : Nat) (gs : List Gv) : chN ns R W gs = kQ (ch3 ns R W gs) ns.length := rfl
theorem sp_le (q : Int) (W : Nat) (l : List Int) : spN q W l ≤ W := by
  have := vX (f := fun w => if l.any (fun v => v % q % W == (w : Int)) then 1 else 0) (B := 1) (k := W) (fun i _ => by split <;> omega)
  unfold spN; omega
theorem GOk.in_len {ns : List Nd} {R W : Nat} (g : GOk ns R W) {gs : List Gv} (hg : GvOk ns gs) {n e s : Nat} (hn : n < ns.length) (hs : s < R) : (inV ns gs n e s).length ≤ 200000 := by
  obtain ⟨r, q, hG⟩ := g.good
  have hR := g.hR
  unfold inV
  split
  · simp
  · rename_i hk
    have h0 : (qV ns n).kind ≠ 0 := by simpa using hk
    unfold kK
    by_cases h3 : (qV ns n).kind = 3
    · obtain ⟨a, ea, ha, _⟩ := hG.inp hn (z := (qV ns n).a) (by rw [xL h3]; simp)
      obtain ⟨b, eb, hb, _⟩ := hG.inp hn (z := (qV ns n).b) (by rw [xL h3]; simp)
      have h1 := hG.val_len hg e (s := s) (by omega) ha
      have h2 := hG.val_len hg e (s := s) (by omega) hb
      rw [xL h3, ea, eb]; simp; omega
    · obtain ⟨a, ea, ha, _⟩ := hG.inp hn (z := (qV ns n).a) (by rw [inputs_1 h0 h3]; simp)
      have h1 := hG.val_len hg e (s := s) (by omega) ha
      rw [inputs_1 h0 h3, ea]; simp; omega
theorem GOk.ch1_le {ns : List Nd} {R W : Nat} (g : GOk ns R W) {gs : List Gv} (hg : GvOk ns gs) {n e s : Nat} (hn : n < ns.length) (hs : s < R) : ch1 ns W gs n e s ≤ 200004 := by
  have h1 := g.in_len hg (e := e) hn hs
  have h2 := sp_le (qV ns n).k W (inV ns gs n e s)
  have := g.hW
  unfold ch1
  split <;> omega
theorem GOk.ch2_le {ns : List Nd} {R W : Nat} (g : GOk ns R W) {gs : List Gv} (hg : GvOk ns gs) {n e s : Nat} (hn : n < ns.length) (hs : s ≤ R) : kQ (ch1 ns W gs n e) s ≤ 800016 := by
  have := vX (f := ch1 ns W gs n e) (k := s) (B := 200004) (fun i hi => g.ch1_le hg hn (by omega))
  have := Nat.mul_le_mul_right 200004 hs
  have := Nat.mul_le_mul_right 200004 g.hR
  omega
theorem GOk.ch3_le {ns : List Nd} {R W : Nat} (g : GOk ns R W) {gs : List Gv} (hg : GvOk ns gs) {n e : Nat} (hn : n < ns.length) (he : e ≤ 6) : kQ (ch2 ns R W gs n) e ≤ 4800096 := by
  have := vX (f := ch2 ns R W gs n) (k := e) (B := 800016) (fun i hi => g.ch2_le hg hn (Nat.le_refl _))
  have := Nat.mul_le_mul_right 800016 he
  omega
theorem GOk.chN_le {ns : List Nd} {R W : Nat} (g : GOk ns R W) {gs : List Gv} (hg : GvOk ns gs) {n : Nat} (hn : n ≤ ns.length) : kQ (ch3 ns R W gs) n ≤ 38400768 := by
  have := vX (f := ch3 ns R W gs) (k := n) (B := 4800096) (fun i hi => g.ch3_le hg (by omega) (Nat.le_refl _))
  have := Nat.mul_le_mul_right 4800096 hn
  have := Nat.mul_le_mul_right 4800096 g.h8
  omega
set_option maxRecDepth 100000 in
set_option maxHeartbeats 8000000 in
theorem klength_any {ns : List Nd} {R W : Nat} {gs : List Gv} (g : GOk ns R W) (hgv : GvOk ns gs) (bb : Nat) (w : World) (na : Option Addr) (nc used : Nat) (hus : used ≤ 1000) (c1 : w.cell? ⟨bb, 1, none⟩ = some (.slice na ns.length nc)) (c2 : w.cell? ⟨bb, 2, none⟩ = some (.int .i64 (R : Int))) (c3 : w.cell? ⟨bb, 3, none⟩ = some (.int .i64 (W : Int))) (c6 : w.cell? ⟨bb, 6, none⟩ = some (.int .i64 (used : Int))) (cl : bb < w.heap.size) (hnd : NodesAt w na ns) {V : World} (I O : Tb) (FI : Nat → Nat → Nat → List Int) (hT : TF V w I ns.length R FI) (hF : ∀ e s n, e < 6 → s < R → n < ns.length → FI e s n = inV ns gs n e s) :
    Calls Try.prog 35 #[.pointer (some ⟨bb, 0, none⟩), .agg #[I.val ns.length, O.val ns.length]] w fun en w' => en = .returned (.int .i64 (lenN ns R W gs used : Nat)) ∧ Bw w w' := by
  have hR4 := g.hR
  have hL8 := g.h8
  have hW4 := g.hW
  have hW1 := g.hW1
  have HF := qJ hF
  have Hgv := qJ hgv
  clear hF hgv
  unfold Tb.val
  go_enter Try.func35, Try.ntmps35
  go_wp2_with fail
  obtain ⟨W1, hW1'⟩ : ∃ W1, w.alloc (.cells #[.slice (some ⟨I.ob, 0, none⟩) ns.length I.oc, .slice (some ⟨O.ob, 0, none⟩) ns.length O.oc] 62) = W1 := ⟨_, rfl⟩
  rw [hW1']
  have hB1 : Bw w W1 := hW1' ▸ (by repeat first|exact br _|assumption|apply bd|apply bn|apply ba|refine bt ?_ (by assumption))
  have b1 : W1.heap[w.heap.size]? = some (.cells #[.slice (some ⟨I.ob, 0, none⟩) ns.length I.oc, .slice (some ⟨O.ob, 0, none⟩) ns.length O.oc] 62 (0, 0)) := hW1' ▸ heap_alloc_new w _
  clear hW1'
  have c1' := ((qX hB1).1 _ 1 cl).trans c1
  have c2' := ((qX hB1).1 _ 2 cl).trans c2
  have c3' := ((qX hB1).1 _ 3 cl).trans c3
  have c6' := ((qX hB1).1 _ 6 cl).trans c6
  have cl' := Nat.lt_of_lt_of_le cl hB1.size
  have f0' := qQ (o := 0) b1 rfl
  have fl' := (Array.getElem?_eq_some_iff.1 b1).1
  have HT := qJ (hT.bw hB1)
  have Hnd := qJ (hnd.below hB1)
  clear c1 c2 c3 c6 cl b1 hT hnd
  go_loopw [5, 6] (fun c i wr => ∃ n : Nat, n ≤ ns.length ∧ i = .int .i64 n ∧ c = .int .i64 ((kQ (ch3 ns R W gs) n : Nat) : Int) ∧ Bw W1 wr) (fun _ i _ => ns.length - (intOf i).toNat)
  case atStart => exact ⟨0, Nat.zero_le _, rfl, rfl, Bw.refl _⟩
  case round =>
    obtain ⟨n, hnl, rfl, rfl, hBr⟩ := hrel
    rename World => wr
    have b3 := g.chN_le (qK Hgv) hnl
    have c1 := ((qX hBr).1 _ 1 cl').trans c1'
    have cl := Nat.lt_of_lt_of_le cl' hBr.size
    by_cases hlt : n < ns.length
    · have hn1 : (n : Int) < (ns.length : Int) := by omega
      have HBr := qJ hBr
      clear hBr
      obtain ⟨k3, hk3⟩ : ∃ k3, kQ (ch3 ns R W gs) n = k3 := ⟨_, rfl⟩
      have Hk3 := qJ hk3
      rw [hk3] at b3 ⊢
      clear hk3
      go_wp2_with fail
      go_loopw [5, 7] (fun c i wi => ∃ e : Nat, e ≤ 6 ∧ i = .int .i64 e ∧ c = .int .i64 ((k3 + kQ (ch2 ns R W gs n) e : Nat) : Int) ∧ Bw W1 wi) (fun _ i _ => 6 - (intOf i).toNat)
      case atStart => exact ⟨0, Nat.zero_le _, rfl, rfl, qK HBr⟩
      case round =>
        clear c1 cl
        obtain ⟨e, hel, rfl, rfl, hBi⟩ := hrel
        rename World => wi
        have b2 := g.ch3_le (qK Hgv) hlt hel
        by_cases he : e < 6
        · have hd6 : decide ((e : Int) ≤ 5) = true := by simp only [decide_eq_true_eq]; omega
          have HBi := qJ hBi
          clear hBi HBr
          obtain ⟨k2, hk2⟩ : ∃ k2, kQ (ch2 ns R W gs n) e = k2 := ⟨_, rfl⟩
          have Hk2 := qJ hk2
          rw [hk2] at b2 ⊢
          clear hk2
          go_wp2_with fail
          go_loopw [5, 8] (fun c i wj => ∃ s : Nat, s ≤ R ∧ i = .int .i64 s ∧ c = .int .i64 ((k3 + k2 + kQ (ch1 ns W gs n e) s : Nat) : Int) ∧ Bw W1 wj) (fun _ i _ => R - (intOf i).toNat)
          case atStart => exact ⟨0, Nat.zero_le _, rfl, rfl, qK HBi⟩
          case round =>
            obtain ⟨s, hsl, rfl, rfl, hBj⟩ := hrel
            rename World => wj
            have b1 := g.ch2_le (qK Hgv) (e := e) hlt hsl
            have c1 := ((qX hBj).1 _ 1 cl').trans c1'
            have c2 := ((qX hBj).1 _ 2 cl').trans c2'
            have c3 := ((qX hBj).1 _ 3 cl').trans c3'
            have cl := Nat.lt_of_lt_of_le cl' hBj.size
            have f0 := ((qX hBj).1 _ 0 fl').trans f0'
            have fl := Nat.lt_of_lt_of_le fl' hBj.size
            by_cases hs : s < R
            · have hs1 : (s : Int) < (R : Int) := by omega
              have he1 : (e : Int) < 6 := by omega
              obtain ⟨o1, o2, ⟨la, lc, o3, fo, flc⟩, l1, l2, l3, _⟩ := ((qK HT).bw hBj).get hlt he hs
              have b0 := g.ch1_le (qK Hgv) (e := e) hlt hs
              have bl := g.in_len (qK Hgv) (e := e) hlt hs
              have Hsn : Hid (kQ (ch1 ns W gs n e) (s + 1) = kQ (ch1 ns W gs n e) s + ch1 ns W gs n e s) := qJ rfl
              have fo' := fo.ints.1
              have eF := (qK HF) e s n he hs hlt
              rw [eF] at o3 flc fo'
              obtain ⟨b, off, rfl, hb, hc⟩ := ((qK Hnd).below hBj) n hlt
              obtain ⟨q0, q1, q2, q3, q4⟩ := hc n hlt
              obtain ⟨k1, hk1⟩ : ∃ k1, kQ (ch1 ns W gs n e) s = k1 := ⟨_, rfl⟩
              rw [hk1] at b1 Hsn ⊢
              obtain ⟨ll, hll⟩ : ∃ ll, inV ns gs n e s = ll := ⟨_, rfl⟩
              have Hch : Hid (ch1 ns W gs n e s = ll.length + if (qV ns n).kind == 6 then spN (qV ns n).k W ll else 0) := qJ (by rw [← hll]; rfl)
              rw [hll] at o3 flc bl fo'
              have HBj := qJ hBj
              have hk3b := b3
              clear hc hBj fo eF hll hk1
              cases hk6 : ((qV ns n).kind == 6) with
              | true =>
                rw [hk6, if_pos rfl] at Hch
                obtain ⟨kk1, kk2⟩ := (g.kind n hlt).2.1 (by simpa using hk6)
                have hsp := sp_le (qV ns n).k W ll
                have Hsp : Hid (∀ w', Bw wj w' → Calls Try.prog 63 #[.agg #[.int .i64 (qV ns n).kind, .int .i64 (qV ns n).a, .int .i64 (qV ns n).b, .int .i64 (qV ns n).k, .int .i64 (qV ns n).m], .slice la ll.length lc, .int .i64 (W : Int)] w' fun en w2 => en = .returned (.int .i64 (spN (qV ns n).k W ll : Nat)) ∧ Bw wj w2 ∧ (w2.cell? ⟨bb, 1, none⟩ = some (.slice (some ⟨b, off, none⟩) ns.length nc) ∧ w2.cell? ⟨bb, 3, none⟩ = some (.int .i64 (W : Int)) ∧ w2.cell? ⟨b, off + n * 5, none⟩ = some (.int .i64 (qV ns n).kind) ∧ w2.cell? ⟨b, off + n * 5 + 1, none⟩ = some (.int .i64 (qV ns n).a) ∧ w2.cell? ⟨b, off + n * 5 + 2, none⟩ = some (.int .i64 (qV ns n).b) ∧ w2.cell? ⟨b, off + n * 5 + 3, none⟩ = some (.int .i64 (qV ns n).k) ∧ w2.cell? ⟨b, off + n * 5 + 4, none⟩ = some (.int .i64 (qV ns n).m))) := qJ (by
                  intro w' hb'
                  have h0 := kspread_any (qV ns n) ll la lc W w' (fo'.below hb') (by omega) kk1 kk2 hW1 hW4
                  unfold Nd.val at h0
                  refine h0.mono ?_
                  rintro en w5 ⟨rfl, h2⟩
                  have hbb := hb'.trans h2
                  exact ⟨rfl, hbb, ((qX hbb).1 _ _ cl).trans c1, ((qX hbb).1 _ _ cl).trans c3, ((qX hbb).1 _ _ hb).trans q0, ((qX hbb).1 _ _ hb).trans q1, ((qX hbb).1 _ _ hb).trans q2, ((qX hbb).1 _ _ hb).trans q3, ((qX hbb).1 _ _ hb).trans q4⟩)
                clear fo' kk1 kk2
                go_wp2_with fail
                refine wp_region_held_drew (S := (fun w' => w'.cell? ⟨bb, 1, none⟩ = some (.slice (some ⟨b, off, none⟩) ns.length nc) ∧ w'.cell? ⟨bb, 3, none⟩ = some (.int .i64 (W : Int)) ∧ w'.cell? ⟨b, off + n * 5, none⟩ = some (.int .i64 (qV ns n).kind) ∧ w'.cell? ⟨b, off + n * 5 + 1, none⟩ = some (.int .i64 (qV ns n).a) ∧ w'.cell? ⟨b, off + n * 5 + 2, none⟩ = some (.int .i64 (qV ns n).b) ∧ w'.cell? ⟨b, off + n * 5 + 3, none⟩ = some (.int .i64 (qV ns n).k) ∧ w'.cell? ⟨b, off + n * 5 + 4, none⟩ = some (.int .i64 (qV ns n).m))) (by kernel_rfl) (by (try dsimp only); go_keep) (fun hHeld => ?_)
                refine wpAnyH_take (i := 0) (v := ?vn0) rfl (by kernel_rfl) (by kernel_rfl) (by kernel_rfl) (fun _ _ _ h => h) (Or.inl ⟨by rfl, ?hn0⟩) (by assumption) ?rn0; (case hn0 => intro w S; (try dsimp only at S); go_simp; try with_reducible rfl); try simp only [Act.put, qP, qN, qM]
                refine wpAnyH_take (i := 1) (v := ?vn1) rfl (by kernel_rfl) (by kernel_rfl) (by kernel_rfl) (fun _ _ _ h => h) (Or.inl ⟨by rfl, ?hn1⟩) (by assumption) ?rn1; (case hn1 => intro w S; (try dsimp only at S); go_simp; try with_reducible rfl); try simp only [Act.put, qP, qN, qM]
                refine wpAnyH_take (i := 2) (v := ?vn2) rfl (by kernel_rfl) (by kernel_rfl) (by kernel_rfl) (fun _ _ _ h => h) (Or.inl ⟨by rfl, ?hn2⟩) (by assumption) ?rn2; (case hn2 => intro w S; (try dsimp only at S); go_simp; try with_reducible rfl); try simp only [Act.put, qP, qN, qM]
                refine wpAnyH_take (i := 3) (v := ?vn3) rfl (by kernel_rfl) (by kernel_rfl) (by kernel_rfl) (fun _ _ _ h => h) (Or.inl ⟨by rfl, ?hn3⟩) (by assumption) ?rn3; (case hn3 => intro w S; (try dsimp only at S); go_simp; try with_reducible rfl); try simp only [Act.put, qP, qN, qM]
                refine wpAnyH_take (i := 4) (v := ?vn4) rfl (by kernel_rfl) (by kernel_rfl) (by kernel_rfl) (fun _ _ _ h => h) (Or.inl ⟨by rfl, ?hn4⟩) (by assumption) ?rn4; (case hn4 => intro w S; (try dsimp only at S); go_simp; try with_reducible rfl); try simp only [Act.put, qP, qN, qM]
                refine wpAnyH_take (i := 5) (v := ?vn5) rfl (by kernel_rfl) (by kernel_rfl) (by kernel_rfl) (fun _ _ _ h => h) (Or.inl ⟨by rfl, ?hn5⟩) (by assumption) ?rn5; (case hn5 => intro w S; (try dsimp only at S); go_simp; try with_reducible rfl); try simp only [Act.put, qP, qN, qM]
                refine wpAnyH_take (i := 6) (v := ?vn6) rfl (by kernel_rfl) (by kernel_rfl) (by kernel_rfl) (fun _ _ _ h => h) (Or.inl ⟨by rfl, ?hn6⟩) (by assumption) ?rn6; (case hn6 => intro w S; (try dsimp only at S); go_simp; try with_reducible rfl); try simp only [Act.put, qP, qN, qM]
                refine wpAnyH_take (i := 7) (v := ?vn7) rfl (by kernel_rfl) (by kernel_rfl) (by kernel_rfl) (fun _ _ _ h => h) (Or.inl ⟨by rfl, ?hn7⟩) (by assumption) ?rn7; (case hn7 => intro w S; (try dsimp only at S); go_simp; try with_reducible rfl); try simp only [Act.put, qP, qN, qM]
                refine wpAnyH_take (i := 8) (v := ?vn8) rfl (by kernel_rfl) (by kernel_rfl) (by kernel_rfl) (fun _ _ _ h => h) (Or.inl ⟨by rfl, ?hn8⟩) (by assumption) ?rn8; (case hn8 => intro w S; (try dsimp only at S); go_simp; try with_reducible rfl); try simp only [Act.put, qP, qN, qM]
                refine wpAnyH_take (i := 9) (v := ?vn9) rfl (by kernel_rfl) (by kernel_rfl) (by kernel_rfl) (fun _ _ _ h => h) (Or.inl ⟨by rfl, ?hn9⟩) (by assumption) ?rn9; (case hn9 => intro w S; (try dsimp only at S); go_simp; try with_reducible rfl); try simp only [Act.put, qP, qN, qM]
                refine wpAnyH_take (i := 10) (v := ?vn10) rfl (by kernel_rfl) (by kernel_rfl) (by kernel_rfl) (fun _ _ _ h => h) (Or.inl ⟨by rfl, ?hn10⟩) (by assumption) ?rn10; (case hn10 => intro w S; (try dsimp only at S); go_simp; try with_reducible rfl); try simp only [Act.put, qP, qN, qM]
                refine wpAnyH_take (i := 11) (v := ?vn11) rfl (by kernel_rfl) (by kernel_rfl) (by kernel_rfl) (fun _ _ _ h => h) (Or.inl ⟨by rfl, ?hn11⟩) (by assumption) ?rn11; (case hn11 => intro w S; (try dsimp only at S); go_simp; try with_reducible rfl); try simp only [Act.put, qP, qN, qM]
                refine wpAnyH_take (i := 12) (v := ?vn12) rfl (by kernel_rfl) (by kernel_rfl) (by kernel_rfl) (fun _ _ _ h => h) (Or.inl ⟨by rfl, ?hn12⟩) (by assumption) ?rn12; (case hn12 => intro w S; (try dsimp only at S); go_simp; try with_reducible rfl); try simp only [Act.put, qP, qN, qM]
                refine wpAnyH_take (i := 13) (v := ?vn13) rfl (by kernel_rfl) (by kernel_rfl) (by kernel_rfl) (fun _ _ _ h => h) (Or.inl ⟨by rfl, ?hn13⟩) (by assumption) ?rn13; (case hn13 => intro w S; (try dsimp only at S); go_simp; try with_reducible rfl); try simp only [Act.put, qP, qN, qM]
                refine wpAnyH_ready (rs := [14]) (by kernel_rfl) (by simp) ?_
                refine AllReadyH.cons rfl (fun K hK => ?_) AllReadyH.nil
                go_simp
                go_at_call 63
                refine ((qK Hsp) _ (by repeat first|exact br _|assumption|apply bd|apply bn|apply ba|refine bt ?_ (by assumption))).mono ?_
                rintro _ w9 ⟨rfl, hB9, ⟨t1, t3, t5, t6, t7, t8, t9⟩⟩
                (try go_wp2_with fail)
                refine hK.out _ _ (by (try dsimp only); go_keep) (fun hHeld => ?_)
                clear hK K
                try simp only [Act.put, qP, qN, qM]
                refine wpAnyH_take (i := 15) (v := ?vn15) rfl (by kernel_rfl) (by kernel_rfl) (by kernel_rfl) (fun _ _ _ h => h) (Or.inl ⟨by rfl, ?hn15⟩) (by assumption) ?rn15; (case hn15 => intro w S; (try dsimp only at S); go_simp; try with_reducible rfl); try simp only [Act.put, qP, qN, qM]
                refine wpAnyH_take (i := 16) (v := ?vn16) rfl (by kernel_rfl) (by kernel_rfl) (by kernel_rfl) (fun _ _ _ h => h) (Or.inl ⟨by rfl, ?hn16⟩) (by assumption) ?rn16; (case hn16 => intro w S; (try dsimp only at S); go_simp; try with_reducible rfl); try simp only [Act.put, qP, qN, qM]
                refine wpAnyH_done (by kernel_rfl) ?_ _
                go_wp2_with fail
                go_roundw
                case rel =>
                  refine ⟨s + 1, by omega, by go_num, ?_, (qK HBj).trans hB9⟩
                  rw [qK Hsn, qK Hch]
                  go_num
                case measure => simp [intOf]; omega
              | false =>
                rw [hk6] at Hch
                clear fo'
                go_wp2_with fail
                go_roundw
                case rel =>
                  refine ⟨s + 1, by omega, by go_num, ?_, qK HBj⟩
                  rw [qK Hsn, qK Hch]
                  go_num
                case measure => simp [intOf]; omega
            · have hss : s = R := by omega
              subst hss
              have HBj := qJ hBj
              clear hBj
              go_wp2_with fail
              go_roundw
              case rel =>
                refine ⟨e + 1, by omega, by go_num, ?_, qK HBj⟩
                rw [kQ, qK Hk2, Nat.add_assoc]; rfl
              case measure => simp [intOf]; omega
        · have hee : e = 6 := by omega
          subst hee
          have HBi := qJ hBi
          clear hBi
          go_wp2_with fail
          go_roundw
          case rel =>
            refine ⟨n + 1, by omega, by go_num, ?_, qK HBi⟩
            rw [← qK Hk3]; rfl
          case measure => simp [intOf]; omega
    · have hnn : n = ns.length := by omega
      subst hnn
      have c3 := ((qX hBr).1 _ 3 cl').trans c3'
      have c6 := ((qX hBr).1 _ 6 cl').trans c6'
      have HBr := qJ hBr
      clear hBr
      obtain ⟨k3, hk3⟩ : ∃ k3, kQ (ch3 ns R W gs) ns.length = k3 := ⟨_, rfl⟩
      have Hk3 := qJ hk3
      rw [hk3] at b3 ⊢
      clear hk3
      have hm : (W - 1) * (k3 + used) ≤ 3 * (k3 + used) := Nat.mul_le_mul_right _ (by omega)
      have hmi : (((W - 1) * (k3 + used) : Nat) : Int) = ((W : Int) - 1) * ((k3 : Int) + (used : Int)) := by
        rw [Int.natCast_mul, Int.natCast_sub hW1]; simp
      have hw1 : IntKind.i64.wrap ((W : Int) - 1) = (W : Int) - 1 := by rw [IntKind.wrap_i64]; omega
      have hw2 : IntKind.i64.wrap ((k3 : Int) + (used : Int)) = (k3 : Int) + (used : Int) := by rw [IntKind.wrap_i64]; omega
      have hw3 : IntKind.i64.wrap (((W : Int) - 1) * ((k3 : Int) + (used : Int))) = ((W : Int) - 1) * ((k3 : Int) + (used : Int)) := by rw [← hmi, IntKind.wrap_i64]; omega
      have hw4 : IntKind.i64.wrap ((k3 : Int) + ((W : Int) - 1) * ((k3 : Int) + (used : Int))) = ((k3 + (W - 1) * (k3 + used) : Nat) : Int) := by rw [← hmi, IntKind.wrap_i64]; omega
      clear hmi
      go_wp2_with fail
      go_quiet (fail)
      go_wp2_with fail
      go_ret
      have e4 : lenN ns R W gs used = k3 + (W - 1) * (k3 + used) := by unfold lenN; rw [chN_eq, qK Hk3]
      refine ⟨?_, hB1.trans ((qK HBr).trans (show Bw wr (wr.drewN nq) from (by repeat first|exact br _|assumption|apply bd|apply bn|apply ba|refine bt ?_ (by assumption))))⟩
      rw [e4, Int.natCast_add, Int.natCast_mul, Int.natCast_add]
      rfl
theorem Kept.wtOk {ns : List Nd} {R W : Nat} {gs : List Gv} {p : PSt} {st : RSt} (h : Kept ns R W gs p st) {i n j : Nat} (hj : j < (p.wt i n).length) : ∃ (e s : Nat) (v : Int), zG (p.wt i n) j = ⟨e, s, v⟩ ∧ zG (p.wt i n) j ∈ p.wt i n ∧ e < 6 ∧ s < R := by
  obtain ⟨k, hi⟩ := h.inv
  obtain ⟨z, e, s, v, _, _, _, g1, g2, g3, _⟩ := h.sim.mail2 hi hj
  refine ⟨e, s, v, g1, ?_, g2, g3⟩
  unfold zG; rw [List.getD_eq_getElem?_getD, List.getElem?_eq_getElem hj]; exact List.getElem_mem hj
theorem Cov.let {ns : List Nd} {R W n : Nat} {gs : List Gv} {p : PSt} {st : RSt} {f : List Tm} (g : GOk ns R W) (h : Kept ns R W gs p st) (hn : n < ns.length) (hc : Cov ns R W p n f) {i j : Nat} (hi : i < W) (hj : j < (p.wt i n).length) : ∃ e s : Nat, (zG (p.wt i n) j).node = e ∧ (zG (p.wt i n) j).epoch = s ∧ jU f e s f.length = false := by
  have hR := g.hR
  have h8 := g.h8
  obtain ⟨e', s', v, q1, q2, q3, q4⟩ := h.wtOk hj
  refine ⟨e', s', by rw [q1], by rw [q1], ?_⟩
  cases hf : jU f e' s' f.length with
  | false => rfl
  | true =>
    exact absurd ⟨Nat.le_refl _, Nat.le_refl _⟩ ((hc e' s' q3 q4 hf).quiet (by omega) hi q2 (e' := e') (s' := s') (by rw [q1]) (by rw [q1]) q3 (by omega))
theorem BAt.all {w : World} {U : Nat → Prop} {bb : Nat} {ns : List Nd} {R W : Nat} {gs : List Gv} {p : PSt} {st : RSt} (h : BAt w U bb ns R W gs p st) :
    ∃ (pb : Nat) (na va : Option Addr) (nc vc : Nat), w.cell? ⟨bb, 0, none⟩ = some (.pointer (some ⟨pb, 0, none⟩)) ∧ w.cell? ⟨bb, 1, none⟩ = some (.slice na ns.length nc) ∧ w.cell? ⟨bb, 2, none⟩ = some (.int .i64 (R : Int)) ∧ w.cell? ⟨bb, 3, none⟩ = some (.int .i64 (W : Int)) ∧ w.cell? ⟨bb, 5, none⟩ = some (.slice va gs.length vc) ∧ w.cell? ⟨bb, 6, none⟩ = some (.int .i64 (st.opened.length : Int)) ∧ w.cell? ⟨bb, 7, none⟩ = some (.int .i64 (st.evs.length : Int)) ∧ bb < w.heap.size ∧ NodesAt w na ns ∧ GvAt w va gs ∧ ∃ S xp, ∀ w', Bw w w' → POwn w' S pb xp ns R W (jV ns) p := by
  obtain ⟨W0, T, S, pb, x, xp, h, _⟩ := h
  obtain ⟨c0, c1, c2, c3, c4, c5, c6, c7, c8, cl, _⟩ := h.bt.cells
  exact ⟨pb, x.na, vR x.vg, x.nc, capV x.vg, c0, c1, c2, c3, c5.trans (congrArg some (qU h.bt.given.1)), c6, c7, cl, h.nodes.below h.base, gvAt_own h.bt.given.1, S, xp, fun w' hb => h.run.bw hb⟩
theorem Kept.gvk {ns : List Nd} {R W : Nat} {gs : List Gv} {p : PSt} {st : RSt} (g : GOk ns R W) (h : Kept ns R W gs p st) : GvOk ns gs := by
  refine ⟨(h.small g).2.2.1, fun k hk => ?_⟩
  have hm : zG gs k ∈ gs := by
    unfold zG; rw [List.getD_eq_getElem?_getD, List.getElem?_eq_getElem hk]; exact List.getElem_mem hk
  exact (h.his.gi _ hm).2
theorem BAt.acts {w : World} {U : Nat → Prop} {bb : Nat} {ns : List Nd} {R W : Nat} {gs : List Gv} {p : PSt} {st : RSt} (g : GOk ns R W) (h : BAt w U bb ns R W gs p st) {pb : Nat} (c0 : w.cell? ⟨bb, 0, none⟩ = some (.pointer (some ⟨pb, 0, none⟩))) (w' : World) (hb : Bw w w') :
    Calls Try.prog 36 #[.pointer (some ⟨pb, 0, none⟩)] w' fun en w2 => en = .returned (.int .i64 ((jF ns R W p).length : Nat)) ∧ Bw w' w2 := by
  obtain ⟨W0, T, S, pb', x, xp, h, _⟩ := h
  obtain ⟨c0', _⟩ := h.bt.cells
  rw [c0'] at c0
  have e : pb' = pb := by injection c0 with c0; injection c0 with c0; injection c0 with c0; injection c0
  subst e
  exact pact_any (frsP ns (jV ns) R p) w' (h.run.bw hb) (h.kept.frOk g)
theorem BAt.acts_len {w : World} {U : Nat → Prop} {bb : Nat} {ns : List Nd} {R W : Nat} {gs : List Gv} {p : PSt} {st : RSt} (g : GOk ns R W) (h : BAt w U bb ns R W gs p st) : (jF ns R W p).length ≤ 4000000000 := by
  have hp := h.kept.pinv g
  have hlen := pacts_len (L := ns.length) (W := W) (st := p) (frs := frsP ns (jV ns) R p) g.h8 g.hW (fun i n => by have := (hp.few i n).1; omega) W
  have hlen2 : W * 800000200 ≤ 4 * 800000200 := Nat.mul_le_mul_right _ g.hW
  have hacts : kW ns.length W p (frsP ns (jV ns) R p) W = jF ns R W p := rfl
  rw [hacts] at hlen
  omega
theorem BAt.waiting {w : World} {U : Nat → Prop} {bb : Nat} {ns : List Nd} {R W : Nat} {gs : List Gv} {p : PSt} {st : RSt} (h : BAt w U bb ns R W gs p st) {pb : Nat} (c0 : w.cell? ⟨bb, 0, none⟩ = some (.pointer (some ⟨pb, 0, none⟩))) {i n : Nat} (hi : i < W) (hn : n < ns.length) (w' : World) (hb : Bw w w') :
    Calls Try.prog 30 #[.pointer (some ⟨pb, 0, none⟩), .int .i64 (i : Int), .int .i64 (n : Int)] w' fun en w2 => ∃ va vc, en = .returned (.tuple #[.slice va (p.wt i n).length vc, .int .i64 0]) ∧ GvAt w2 va (p.wt i n) ∧ (p.wt i n).length ≤ 100000000 ∧ Bw w' w2 := by
  obtain ⟨W0, T, S, pb', x, xp, h, _⟩ := h
  obtain ⟨c0', _⟩ := h.bt.cells
  rw [c0'] at c0
  have e : pb' = pb := by injection c0 with c0; injection c0 with c0; injection c0 with c0; injection c0
  subst e
  have hO := h.run.bw hb
  refine (pWaiting_any (i : Int) (n : Int) w' hO).mono ?_
  rintro en w2 ⟨v, rfl, ho, hb2⟩
  rw [pwait_in hi hn]
  have e2 : pwaitR ns.length W p.wt i n = p.wt i n := by
    unfold pwaitR isWk kN
    rw [if_pos (by simp; omega)]
    simp only [Int.toNat_natCast]
  rw [e2] at ho
  exact ⟨vR v, capV v, by rw [← qU ho], gvAt_own ho, (hO.few.1 i n).1, hb2⟩
theorem BAt.front {w : World} {U : Nat → Prop} {bb : Nat} {ns : List Nd} {R W : Nat} {gs : List Gv} {p : PSt} {st : RSt} (g : GOk ns R W) (h : BAt w U bb ns R W gs p st) {pb : Nat} (c0 : w.cell? ⟨bb, 0, none⟩ = some (.pointer (some ⟨pb, 0, none⟩))) {i n : Nat} (hi : i < W) (hn : n < ns.length) (w' : World) (hb : Bw w w') :
    Calls Try.prog 32 #[.pointer (some ⟨pb, 0, none⟩), .int .i64 (i : Int), .int .i64 (n : Int)] w' fun en w2 => ∃ v, en = .returned (.tuple #[v, .int .i64 0]) ∧ OwnT w' w2 v (frsP ns (jV ns) R p i n) ∧ Bw w' w2 := by
  obtain ⟨W0, T, S, pb', x, xp, h, _⟩ := h
  obtain ⟨c0', _⟩ := h.bt.cells
  rw [c0'] at c0
  have e : pb' = pb := by injection c0 with c0; injection c0 with c0; injection c0 with c0; injection c0
  subst e
  have hD : ∀ a b, -1 ≤ jV ns a b ∧ jV ns a b ≤ 1000 := fun a b => by
    have := leastB_bd ns (b : Int) ns.length (a : Int)
    have := g.h8
    unfold jV
    omega
  refine (pFrontier_any (i : Int) (n : Int) w' (h.run.bw hb) (fun a b => (hD a b).2) (fun a b => (hD a b).1) (h.kept.ptOk g)).mono ?_
  rintro en w2 ⟨v, rfl, ho, hb2⟩
  rw [pfrR_frT hi hn] at ho
  exact ⟨v, by rw [pwait_in hi hn], ho, hb2⟩
theorem BAt.flow {w : World} {U : Nat → Prop} {bb : Nat} {ns : List Nd} {R W : Nat} {gs : List Gv} {p : PSt} {st : RSt} (g : GOk ns R W) (h0 : (qV ns 0).kind = 0) (h : BAt w U bb ns R W gs p st) {na va : Option Addr} (hn : NodesAt w na ns) (hv : GvAt w va gs) (nc vc : Nat) (w' : World) (hb : Bw w w') :
    Calls Try.prog 27 #[.agg #[.slice na ns.length nc, .int .i64 (R : Int)], .slice va gs.length vc] w' fun en w2 => ∃ (I O : Tb) (FI : Nat → Nat → Nat → List Int), en = .returned (.agg #[I.val ns.length, O.val ns.length]) ∧ TF w' w2 I ns.length R FI ∧ (∀ e s n, e < 6 → s < R → n < ns.length → FI e s n = inV ns gs n e s) ∧ Bw w' w2 := by
  obtain ⟨r, q, hG⟩ := g.good
  exact kflow_any hG g.low (h.kept.gvk g) g.kind (fun y hy => (h.kept.his.gi y hy).1) na va nc vc g.hR1 g.hR g.h1 g.h8 h0 w' (hn.below hb) (hv.below hb)
theorem BAt.leng {w : World} {U : Nat → Prop} {bb : Nat} {ns : List Nd} {R W : Nat} {gs : List Gv} {p : PSt} {st : RSt} (g : GOk ns R W) (h : BAt w U bb ns R W gs p st) {na : Option Addr} {nc : Nat} (c1 : w.cell? ⟨bb, 1, none⟩ = some (.slice na ns.length nc)) (c2 : w.cell? ⟨bb, 2, none⟩ = some (.int .i64 (R : Int))) (c3 : w.cell? ⟨bb, 3, none⟩ = some (.int .i64 (W : Int))) (c6 : w.cell? ⟨bb, 6, none⟩ = some (.int .i64 (st.opened.length : Int))) (cl : bb < w.heap.size) (hnd : NodesAt w na ns) (w' : World) (hb : Bw w w') (I O : Tb) (FI : Nat → Nat → Nat → List Int) (V : World) (hT : TF V w' I ns.length R FI) (hF : ∀ e s n, e < 6 → s < R → n < ns.length → FI e s n = inV ns gs n e s) :
    Calls Try.prog 35 #[.pointer (some ⟨bb, 0, none⟩), .agg #[I.val ns.length, O.val ns.length]] w' fun en w2 => en = .returned (.int .i64 (lenN ns R W gs st.opened.length : Nat)) ∧ Bw w' w2 :=
  klength_any g (h.kept.gvk g) bb w' na nc st.opened.length (by have := (h.kept.small g).1; omega) (((qX hb).1 _ 1 cl).trans c1) (((qX hb).1 _ 2 cl).trans c2) (((qX hb).1 _ 3 cl).trans c3) (((qX hb).1 _ 6 cl).trans c6) (Nat.lt_of_lt_of_le cl hb.size) (hnd.below hb) I O FI hT hF
end Go.Proofs.Ytfemleimkbjehaa
