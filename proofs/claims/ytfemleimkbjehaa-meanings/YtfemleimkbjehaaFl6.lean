import Derived.Test.YtfemleimkbjehaaFl5
import Derived.Test.YtfemleimkbjehaaMean5
namespace Go.Proofs.Ytfemleimkbjehaa
open Go.RowKit

theorem set_perm : ∀ (l : List Int) (k : Nat) (v : Int), k < l.length → (nth l k :: l.set k v).Perm (v :: l) := by
  intro l
  induction l with
  | nil => intro k v h; simp at h
  | cons a t ih =>
    intro k v h
    cases k with
    | zero =>
      rw [show nth (a :: t) 0 = a from rfl, List.set_cons_zero]
      exact List.Perm.swap _ _ _
    | succ k =>
      have h' : k < t.length := by simpa using h
      rw [show nth (a :: t) (k + 1) = nth t k from rfl, List.set_cons_succ]
      exact (List.Perm.swap _ _ _).trans (((ih k v h').cons a).trans (List.Perm.swap _ _ _))
theorem take_last {l : List Int} {n : Nat} (h : l.length = n + 1) : l = l.take n ++ [nth l n] := by
  rw [← take_nth (by omega), List.take_of_length_le (by omega)]
/-- What is left when the place k is taken out, and the last put there. -/
def takeOut (l : List Int) (k n : Nat) : List Int := (l.set k (nth l n)).take n
theorem takeOut_len {l : List Int} {k n : Nat} (h : l.length = n + 1) : (takeOut l k n).length = n := by unfold takeOut; simp; omega
theorem takeOut_perm {l : List Int} {k n : Nat} (h : l.length = n + 1) (hk : k ≤ n) : l.Perm (nth l k :: takeOut l k n) := by
  have hT : (l.take n).length = n := by simp; omega
  have hl := take_last h
  unfold takeOut
  by_cases e : k = n
  · subst e
    have h1 : l.set k (nth l k) = l := by rw [nth_lt (by omega)]; exact List.set_getElem_self (by omega)
    rw [h1]
    conv => lhs; rw [hl]
    exact List.perm_append_singleton _ _
  · have hkn : k < n := by omega
    have h2 : (l.set k (nth l n)).take n = (l.take n).set k (nth l n) := by rw [List.take_set]
    have h3 : nth l k = nth (l.take n) k := (nth_take hkn (by omega)).symm
    rw [h2, h3]
    refine List.Perm.trans ?_ (set_perm (l.take n) k (nth l n) (by omega)).symm
    conv => lhs; rw [hl]
    exact List.perm_append_singleton _ _

structure SelOk (l em rest : List Int) : Prop where
  perm : (em ++ rest).Perm l
  srt : em.Pairwise (· ≤ ·)
  low : ∀ x ∈ em, ∀ y ∈ rest, x ≤ y
theorem SelOk.start (l : List Int) : SelOk l [] l := ⟨List.Perm.refl _, List.Pairwise.nil, by simp⟩
theorem SelOk.step {l em rest : List Int} {k n : Nat} (h : SelOk l em rest) (hl : rest.length = n + 1) (hk : k ≤ n) (hmin : ∀ j, j < rest.length → nth rest k ≤ nth rest j) : SelOk l (em ++ [nth rest k]) (takeOut rest k n) := by
  have hp := takeOut_perm hl hk
  have hmin' : ∀ y ∈ rest, nth rest k ≤ y := by
    intro y hy
    obtain ⟨j, hj, rfl⟩ := List.getElem_of_mem hy
    rw [← nth_lt hj]; exact hmin j hj
  refine ⟨?_, srt_snoc h.srt fun x hx => h.low x hx _ (nth_mem (by omega)), ?_⟩
  · rw [List.append_assoc]
    exact ((List.Perm.append_left em hp).symm.trans h.perm)
  · intro x hx y hy
    have hy' : y ∈ rest := hp.mem_iff.2 (List.mem_cons_of_mem _ hy)
    rcases List.mem_append.1 hx with hx | hx
    · exact h.low x hx y hy'
    · simp at hx; subst hx; exact hmin' y hy'
theorem SelOk.done {l em rest : List Int} (h : SelOk l em rest) (h0 : rest.length = 0) : em = srtL l := by
  have : rest = [] := List.eq_nil_of_length_eq_zero h0
  subst this
  exact srt_uniq (by simpa using h.perm) h.srt
theorem SelOk.lens {l em rest : List Int} (h : SelOk l em rest) : em.length + rest.length = l.length := by
  rw [← List.length_append]; exact h.perm.length_eq

/-- What comes to a Sink. -/
theorem Good.sink {ns : List Nd} {r : Int} {q : List Int} (h : Good ns r q) {gv : List Gv} (hg : GvOk ns gv) {e s n : Nat} (hn : n < ns.length) (h7 : (ndn ns n).kind = 7) {F : Nat → List Int} (hF : ∀ a, a < ns.length → (ndn ns a).kind ≠ 7 → F a = valS ns gv e s a) : comeL (ndn ns n) F = valS ns gv e s n := by
  have hc : comeL (ndn ns n) F = comeL (ndn ns n) (valS ns gv e s) := come_congr fun z hz => by
    obtain ⟨a, rfl, ha, ha7, _⟩ := h.inp hn hz
    rw [Int.toNat_natCast]
    exact hF a ha ha7
  have h64 : I64L (comeL (ndn ns n) (valS ns gv e s)) := come_64 fun z hz => by
    obtain ⟨a, rfl, ha, _, _⟩ := h.inp hn hz
    exact h.val_64 hg e s a ha
  rw [hc, h.val_fix gv e s hn]
  unfold putL
  rw [if_neg (by simp [h7]), if_neg (by simp [h7]), nodeL_same (by omega) h64]

/-- A slice cut short by one. -/
theorem Own.cut {W w : World} {g cap n : Nat} {xs : List Int} (h : Own W w (.slice (some ⟨g, 0, none⟩) xs.length cap) xs) (hl : n ≤ xs.length) : Own W w (.slice (some ⟨g, 0, none⟩) n cap) (xs.take n) := by
  obtain ⟨_, h⟩ := h
  have hn : (xs.take n).length = n := by simp; omega
  refine ⟨by simp, ?_⟩
  rcases h with ⟨e, _⟩ | ⟨g', cap', cur, e, hg, hc, h1, h2, h3, h4⟩
  · cases e
  · simp at e
    obtain ⟨rfl, rfl⟩ := e
    refine .inr ⟨g, cap, cur, by rw [hn], hg, hc, by rw [hn]; omega, h2, h3, ?_⟩
    rw [hn, Nat.mul_one, List.map_take]
    rw [Nat.mul_one] at h4
    rw [← h4, List.take_take, Nat.min_eq_left hl]
theorem Own.block {W w : World} {g cap n : Nat} {xs : List Int} (h : Own W w (.slice (some ⟨g, 0, none⟩) n cap) xs) : W.heap.size ≤ g ∧ ∃ cur : Array Value, w.heap[g]? = some (.cells cur 3 (0, 0)) := by
  obtain ⟨_, h⟩ := h
  rcases h with ⟨e, _⟩ | ⟨g', cap', cur, e, hg, hc, _⟩
  · cases e
  · simp at e
    obtain ⟨rfl, _, _⟩ := e
    exact ⟨hg, cur, hc⟩
theorem Own.out {W w : World} {g cap k m : Nat} {xs : List Int} (h : Own W w (.slice (some ⟨g, 0, none⟩) xs.length cap) xs) (hl : xs.length = m + 1) (hk : k ≤ m) : Own W (w.setCell ⟨g, k, none⟩ (.int .i64 (nth xs m))) (.slice (some ⟨g, 0, none⟩) m cap) (takeOut xs k m) := by
  have h1 := h.set (k := k) (nth xs m) (by omega)
  have e : (xs.set k (nth xs m)).length = xs.length := by simp
  rw [← e] at h1
  exact h1.cut (by rw [List.length_set]; omega)
def lenV : Value → Nat
  | .slice _ n _ => n
  | _ => 0
theorem isNodeB_no {len : Nat} {n : Int} (h : n < 0 ∨ (len : Int) ≤ n) : isNodeB len n = false := by
  cases e : isNodeB len n with
  | false => rfl
  | true => have := isNodeB_iff.1 e; omega
theorem givB_lo {ns : List Nd} {x : Gv} (h : x.node < 0) : givB ns x = false := by
  have : isNodeB ns.length x.node = false := isNodeB_no (.inl h)
  unfold givB; rw [this]; rfl
theorem givB_hi {ns : List Nd} {x : Gv} (h : (ns.length : Int) ≤ x.node) : givB ns x = false := by
  have : isNodeB ns.length x.node = false := isNodeB_no (.inr h)
  unfold givB; rw [this]; rfl
theorem givB_mid {ns : List Nd} {x : Gv} {k : Nat} (h : x.node = k) (hk : k < ns.length) : givB ns x = (((ndn ns k).kind == 0) && (decide (0 ≤ x.epoch) && decide (x.epoch ≤ 5))) := by
  have : isNodeB ns.length x.node = true := isNodeB_iff.2 ⟨by omega, by omega⟩
  unfold givB; rw [this, h]; rfl

set_option maxRecDepth 100000 in
set_option maxHeartbeats 4000000 in
theorem rmeaning_any (ns : List Nd) (ga va : Option Addr) (gc vc : Nat) (r : Int) (gv : List Gv) (w : World) (hn : NodesAt w ga ns) (hgl : ns.length ≤ maxLen) (hv : GvAt w va gv) (h64 : ∀ k, k < gv.length → I64 (gvn gv k).value) (hvl : gv.length ≤ maxLen) :
    Calls Try.prog 49 #[.agg #[.slice ga ns.length gc, .int .i64 r], .slice va gv.length vc] w fun e w' => MeanOk w w' e ns r gv := by
  have hvl' := hvl
  unfold maxLen at hvl'
  go_enter Try.func49, Try.ntmps49
  go_wp2_with fail
  refine (rcheck_any ns _ _ _ _ (hn.below (by repeat (first | exact Bw.refl _ | assumption | refine Bw.drew ?_ | refine Bw.drewN ?_ _ | refine Bw.alloc ?_ _ | refine Bw.trans ?_ (by assumption)))) hgl).mono ?_
  rintro en w1 ⟨rfl, hB1⟩
  rw [refE_checkE]
  obtain ⟨x0, x1⟩ : w1.cell? ⟨w.heap.size, 0, none⟩ = some (.slice ga ns.length gc) ∧ w1.cell? ⟨w.heap.size, 1, none⟩ = some (.int .i64 r) := by
    obtain ⟨q1, q2⟩ := bcell hB1
    exact ⟨(q1 _ _ (by simp)).trans (by simp), (q1 _ _ (by simp)).trans (by simp)⟩
  have gz1 : w.heap.size < w1.heap.size := by have := hB1.size; simp at this; omega
  have hBw1 : Bw w w1 := (by repeat (first | exact Bw.refl _ | assumption | refine Bw.drew ?_ | refine Bw.drewN ?_ _ | refine Bw.alloc ?_ _ | refine Bw.trans ?_ (by assumption)))
  clear hB1
  cases hc : (checkE ns r != 0) with
  | true =>
    have He := hide (meanE_check (gv := gv) hc)
    have Hne : Hid (checkE ns r ≠ 0) := hide (by simpa using hc)
    generalize checkE ns r = c at *
    go_wp2_with fail
    go_ret2
    exact MeanOk.err (unhide He) (unhide Hne) hBw1
  | false =>
    have Hc := hide hc
    have hc0 : checkE ns r = 0 := by simpa using hc
    obtain ⟨hG, R, rfl, hR1, hR4⟩ := good_of hc0
    rw [hc0]
    clear hc hc0
    by_cases h20 : 20 < gv.length
    · have He := hide (meanE_room (unhide Hc) h20)
      go_wp2_with fail
      go_ret2
      exact MeanOk.err (unhide He) (by decide) hBw1
    · have h20d : decide (20 < (gv.length : Int)) = false := by simp; omega
      go_wp2_with fail
      go_loopw [7] (fun i wr => ∃ k : Nat, k ≤ gv.length ∧ i = .int .i64 k ∧ (∀ j, j < k → givB ns (gvn gv j) = true) ∧ Bw w1 wr) (fun i _ => gv.length - (intOf i).toNat)
      case atStart => exact ⟨0, Nat.zero_le _, rfl, fun j hj => absurd hj (Nat.not_lt_zero j), Bw.refl _⟩
      case round =>
        obtain ⟨k, hk, rfl, hall, hB⟩ := hrel
        have Hall := hide hall
        clear hall
        have hBw : Bw w wr := (by repeat (first | exact Bw.refl _ | assumption | refine Bw.drew ?_ | refine Bw.drewN ?_ _ | refine Bw.alloc ?_ _ | refine Bw.trans ?_ (by assumption)))
        have x0' : wr.cell? ⟨w.heap.size, 0, none⟩ = some (.slice ga ns.length gc) := ((bcell hB).1 _ _ gz1).trans x0
        have x1' : wr.cell? ⟨w.heap.size, 1, none⟩ = some (.int .i64 (R : Int)) := ((bcell hB).1 _ _ gz1).trans x1
        have gz2 : w.heap.size < wr.heap.size := by have := hB.size; omega
        clear x0 x1 gz1
        by_cases hlt : k < gv.length
        · obtain ⟨b, off, rfl, hb, hcc⟩ := (hv.below hBw) k hlt
          obtain ⟨c0, c1, c2⟩ := hcc k hlt
          clear hcc
          have Har := hide (fun h => meanE_arg (r := (R : Int)) (unhide Hc) h20 (givTo_false (ns := ns) (gv := gv) (k := k) h _ hlt))
          have Hal := hide (fun h => all_snoc (p := fun j => givB ns (gvn gv j) = true) (unhide Hall) h)
          generalize gvn gv k = x at *
          by_cases hn0 : x.node < 0
          · have hd : decide (x.node < 0) = true := by simpa using hn0
            have He := hide ((unhide Har) (givB_lo hn0))
            clear hn0 Har Hal
            go_wp2_with fail
            go_ret2
            exact MeanOk.err (unhide He) (by decide) (by repeat (first | exact Bw.refl _ | assumption | refine Bw.drew ?_ | refine Bw.drewN ?_ _ | refine Bw.alloc ?_ _ | refine Bw.trans ?_ (by assumption)))
          · have hd : decide (x.node < 0) = false := by simpa using hn0
            by_cases hn1 : (ns.length : Int) ≤ x.node
            · have hd2 : decide ((ns.length : Int) ≤ x.node) = true := by simpa using hn1
              have He := hide ((unhide Har) (givB_hi hn1))
              clear hn0 hn1 Har Hal
              go_wp2_with fail
              go_ret2
              exact MeanOk.err (unhide He) (by decide) (by repeat (first | exact Bw.refl _ | assumption | refine Bw.drew ?_ | refine Bw.drewN ?_ _ | refine Bw.alloc ?_ _ | refine Bw.trans ?_ (by assumption)))
            · obtain ⟨nn, hnn⟩ := Int.eq_ofNat_of_zero_le (a := x.node) (by omega)
              have hnnl : nn < ns.length := by omega
              have Hgb := hide (givB_mid hnn hnnl)
              rw [hnn] at c0
              have hd : decide ((nn : Int) < 0) = false := by simp
              have hd2 : decide ((ns.length : Int) ≤ (nn : Int)) = false := by simp; omega
              have hd3 : decide (ns.length ≤ nn) = false := by simp; omega
              clear hn0 hn1 hnn
              obtain ⟨b3, off3, rfl, hb3, hc3⟩ := (hn.below hBw) nn hnnl
              have d0 := (hc3 nn hnnl).1
              clear hc3
              cases k0 : ((ndn ns nn).kind == 0) with
              | false =>
                have k0n : ((ndn ns nn).kind != 0) = true := by simp [bne, k0]
                have He := hide ((unhide Har) (by rw [unhide Hgb, k0]; rfl))
                clear Har Hal k0
                go_wp2_with fail
                go_ret2
                exact MeanOk.err (unhide He) (by decide) (by repeat (first | exact Bw.refl _ | assumption | refine Bw.drew ?_ | refine Bw.drewN ?_ _ | refine Bw.alloc ?_ _ | refine Bw.trans ?_ (by assumption)))
              | true =>
                have k0n : ((ndn ns nn).kind != 0) = false := by simp [bne, k0]
                by_cases he0 : x.epoch < 0
                · have hd4 : decide (x.epoch < 0) = true := by simpa using he0
                  have He := hide ((unhide Har) (by rw [unhide Hgb, k0, show decide (0 ≤ x.epoch) = false by simp; omega]; rfl))
                  clear Har Hal k0 he0
                  go_wp2_with fail
                  go_ret2
                  exact MeanOk.err (unhide He) (by decide) (by repeat (first | exact Bw.refl _ | assumption | refine Bw.drew ?_ | refine Bw.drewN ?_ _ | refine Bw.alloc ?_ _ | refine Bw.trans ?_ (by assumption)))
                · have hd4 : decide (x.epoch < 0) = false := by simpa using he0
                  by_cases he5 : 5 < x.epoch
                  · have hd5 : decide (5 < x.epoch) = true := by simpa using he5
                    have He := hide ((unhide Har) (by rw [unhide Hgb, k0, show decide (x.epoch ≤ 5) = false by simp; omega]; simp))
                    clear Har Hal k0 he0 he5
                    go_wp2_with fail
                    go_ret2
                    exact MeanOk.err (unhide He) (by decide) (by repeat (first | exact Bw.refl _ | assumption | refine Bw.drew ?_ | refine Bw.drewN ?_ _ | refine Bw.alloc ?_ _ | refine Bw.trans ?_ (by assumption)))
                  · have hd5 : decide (5 < x.epoch) = false := by simpa using he5
                    have Hnx := hide ((unhide Hal) (by rw [unhide Hgb, k0, show decide (0 ≤ x.epoch) = true by simp; omega, show decide (x.epoch ≤ 5) = true by simp; omega]; rfl))
                    clear Har Hal k0 he0 he5
                    go_wp2_with fail
                    go_roundw
                    case rel => exact ⟨k + 1, by omega, by go_num, unhide Hnx, (by repeat (first | exact Bw.refl _ | assumption | refine Bw.drew ?_ | refine Bw.drewN ?_ _ | refine Bw.alloc ?_ _ | refine Bw.trans ?_ (by assumption)))⟩
                    case measure => simp [intOf]; omega
        · have hkk : k = gv.length := by omega
          subst hkk
          have He := hide (meanE_ok (r := (R : Int)) (unhide Hc) h20 (givTo_true _ (unhide Hall)))
          have hgv : GvOk ns gv := ⟨by omega, h64⟩
          have hl := wfB_len hG.wf
          go_wp2_with fail
          refine (flowing_any hG hgv ga va gc vc _ (hn.below (by repeat (first | exact Bw.refl _ | assumption | refine Bw.drew ?_ | refine Bw.drewN ?_ _ | refine Bw.alloc ?_ _ | refine Bw.trans ?_ (by assumption)))) (hv.below (by repeat (first | exact Bw.refl _ | assumption | refine Bw.drew ?_ | refine Bw.drewN ?_ _ | refine Bw.alloc ?_ _ | refine Bw.trans ?_ (by assumption)))) hR1 hR4).mono ?_
          rintro en w2 ⟨fb, ob, oc, tb, tc, rb, F, rfl, hF, hval, hB2⟩
          have Hval := hide hval
          clear hval
          have y0 : w2.cell? ⟨w.heap.size, 0, none⟩ = some (.slice ga ns.length gc) := ((bcell hB2).1 _ _ gz2).trans x0'
          have y1 : w2.cell? ⟨w.heap.size, 1, none⟩ = some (.int .i64 (R : Int)) := ((bcell hB2).1 _ _ gz2).trans x1'
          have gz3 : w.heap.size < w2.heap.size := by have := hB2.size; omega
          have hBw2 : Bw w w2 := hBw.trans hB2
          have Hln : Hid (∀ k, k ≤ ns.length → (recN ns gv R k).length ≤ k * 1966080) := hide (fun k hk => hG.recN_len hgv hR4 k hk)
          have Hlt : Hid (∀ n ts, n < ns.length → (∀ t ∈ ts, t.2 ≤ 3) → ts.length ≤ 24 → (recT ns gv n ts).length ≤ 1966080) := hide (by
            intro n ts hn h1 h2
            have h3 := hG.recT_len hgv hn ts h1
            omega)
          clear hB2 hB hBw x0' x1' gz2
          go_wp2_with fail
          go_loopw [10, 11] (fun v i wi => ∃ n : Nat, n ≤ ns.length ∧ i = .int .i64 n ∧ OwnR w2 wi v (recN ns gv R n) ∧ Bw w2 wi) (fun _ i _ => ns.length - (intOf i).toNat)
          case atStart => exact ⟨0, Nat.zero_le _, rfl, OwnR.nil _ _, Bw.refl _⟩
          case round =>
            obtain ⟨n, hnL, rfl, hown3, hB3⟩ := hrel
            rename World => w3
            have z0 : w3.cell? ⟨w.heap.size, 0, none⟩ = some (.slice ga ns.length gc) := ((bcell hB3).1 _ _ gz3).trans y0
            have z1 : w3.cell? ⟨w.heap.size, 1, none⟩ = some (.int .i64 (R : Int)) := ((bcell hB3).1 _ _ gz3).trans y1
            have gz4 : w.heap.size < w3.heap.size := by have := hB3.size; omega
            by_cases hnl : n < ns.length
            · obtain ⟨b, off, rfl, hb, hcc⟩ := (hn.below (hBw2.trans hB3)) n hnl
              have c0 := (hcc n hnl).1
              clear hcc
              cases k7 : ((ndn ns n).kind == 7) with
              | false =>
                have Hs : Hid (recN ns gv R (n + 1) = recN ns gv R n) := hide (by rw [recN, k7]; simp)
                go_wp2_with fail
                go_loopw [10, 12] (fun v i wi => i = .int .i64 0 ∧ OwnR w2 wi v (recN ns gv R n) ∧ wi = w3) (fun _ _ _ => 0)
                case atStart => exact ⟨rfl, hown3, rfl⟩
                case round =>
                  obtain ⟨rfl, hown4, rfl⟩ := hrel
                  go_wp2_with fail
                  go_roundw
                  case rel => exact ⟨n + 1, by omega, by go_num, by rw [unhide Hs]; exact hown4, hB3⟩
                  case measure => simp [intOf]; omega
              | true =>
                have H7 : Hid ((ndn ns n).kind = 7) := hide (by simpa using k7)
                have Hs : Hid (recN ns gv R (n + 1) = recN ns gv R n ++ recT ns gv n (timesUp R 6)) := hide (by rw [recN, k7]; rfl)
                have Hl1 := hide ((unhide Hln) n (by omega))
                go_wp2_with fail
                go_loopw [10, 12] (fun v i wi => ∃ k : Nat, k ≤ 6 ∧ i = .int .i64 k ∧ OwnR w2 wi v (recN ns gv R n ++ recT ns gv n (timesUp R k)) ∧ Bw w2 wi) (fun _ i _ => 6 - (intOf i).toNat)
                case atStart => exact ⟨0, Nat.zero_le _, rfl, by rw [show recT ns gv n (timesUp R 0) = [] from rfl, List.append_nil]; exact hown3, hB3⟩
                case round =>
                  obtain ⟨k, hk6, rfl, hown4, hB4⟩ := hrel
                  rename World => w4
                  clear z0 z1 c0 hb
                  have z0 : w4.cell? ⟨w.heap.size, 0, none⟩ = some (.slice (some ⟨b, off, none⟩) ns.length gc) := ((bcell hB4).1 _ _ gz3).trans y0
                  have z1 : w4.cell? ⟨w.heap.size, 1, none⟩ = some (.int .i64 (R : Int)) := ((bcell hB4).1 _ _ gz3).trans y1
                  have gz5 : w.heap.size < w4.heap.size := by have := hB4.size; omega
                  obtain ⟨b', off', e', hb, hcc⟩ := (hn.below (hBw2.trans hB4)) n hnl
                  simp at e'
                  obtain ⟨rfl, rfl⟩ := e'
                  have c0 := (hcc n hnl).1
                  clear hcc
                  by_cases hk : k < 6
                  · have hd : decide ((k : Int) ≤ 5) = true := by simp; omega
                    go_wp2_with fail
                    go_loopw [10, 13] (fun v i wi => ∃ s : Nat, s ≤ R ∧ i = .int .i64 s ∧ OwnR w2 wi v (recN ns gv R n ++ recT ns gv n (timesUp R k ++ timesIn k s)) ∧ Bw w2 wi) (fun _ i _ => R - (intOf i).toNat)
                    case atStart => exact ⟨0, Nat.zero_le _, rfl, by rw [show timesIn k 0 = [] from rfl, List.append_nil]; exact hown4, hB4⟩
                    case round =>
                      obtain ⟨s, hsR, rfl, hown5, hB5⟩ := hrel
                      rename World => w5
                      clear z0 z1 c0 hb
                      have z0 : w5.cell? ⟨w.heap.size, 0, none⟩ = some (.slice (some ⟨b, off, none⟩) ns.length gc) := ((bcell hB5).1 _ _ gz3).trans y0
                      have z1 : w5.cell? ⟨w.heap.size, 1, none⟩ = some (.int .i64 (R : Int)) := ((bcell hB5).1 _ _ gz3).trans y1
                      have gz6 : w.heap.size < w5.heap.size := by have := hB5.size; omega
                      by_cases hs : s < R
                      · have Hnx : Hid (∀ em, em = srtL (valS ns gv k s n) → recN ns gv R n ++ recT ns gv n (timesUp R k ++ timesIn k (s + 1)) = (recN ns gv R n ++ recT ns gv n (timesUp R k ++ timesIn k s)) ++ recsAt n k s em) := hide (by
                          intro em e; subst e
                          rw [show timesIn k (s + 1) = timesIn k s ++ [(k, s)] from rfl, ← List.append_assoc, recT_app, recT_one, ← List.append_assoc])
                        have Hll : Hid ((recN ns gv R n ++ recT ns gv n (timesUp R k ++ timesIn k s)).length ≤ 100000000) := hide (by
                          have h1 := unhide Hl1
                          have h2 := (unhide Hlt) n (timesUp R k ++ timesIn k s) hnl (by
                            intro t ht
                            rcases List.mem_append.1 ht with ht | ht
                            · have := (timesUp_mem ht).2; omega
                            · have := (timesIn_mem ht).2; omega) (by
                            rw [List.length_append, timesUp_len, timesIn_len]
                            have : k * R ≤ 5 * 4 := Nat.mul_le_mul (by omega) hR4
                            omega)
                          have h3 : n * 1966080 ≤ 8 * 1966080 := Nat.mul_le_mul_right _ (by omega)
                          rw [List.length_append]; omega)
                        have Hvl := hide (hG.val_len hgv k (s := s) (by omega) hnl)
                        have Hsink := hide (hG.sink hgv hnl (unhide H7) (F := fun a => F k s a) (e := k) (s := s) (fun a ha ha7 => (unhide Hval) k hk s hs a ha ha7))
                        have Hin : Hid (∀ z ∈ inputsL (ndn ns n), ∃ a : Nat, z = a ∧ a < ns.length ∧ (F k s a).length ≤ 100000) := hide (by
                          intro z hz
                          obtain ⟨a, rfl, ha, ha7, _⟩ := hG.inp hnl hz
                          refine ⟨a, rfl, ha, ?_⟩
                          rw [(unhide Hval) k hk s hs a ha ha7]
                          have := hG.val_len hgv k (s := s) (by omega) ha
                          omega)
                        obtain ⟨L, hL⟩ : ∃ L, recN ns gv R n ++ recT ns gv n (timesUp R k ++ timesIn k s) = L := ⟨_, rfl⟩
                        rw [hL] at hown5 Hll
                        have HL := hide hL
                        clear hL
                        go_wp2_with fail
                        refine (come_any ns _ gc R _ _ w5 fb ob oc tb tc rb F n k s (hn.below (hBw2.trans hB5)) hl.2 (hF.bw hB5) hnl hk hs hR4 (unhide Hin)).mono ?_
                        rintro en w6 ⟨va6, rfl, ho6, hB6⟩
                        rw [unhide Hsink] at ho6
                        obtain ⟨aa, ac, rfl, hac⟩ := ho6.slice
                        have ho7 : Own w2 w6 (.slice aa (valS ns gv k s n).length ac) (valS ns gv k s n) := ho6.weaken hB5
                        have hown6 : OwnR w2 w6 _ L := hown5.bw hB6
                        have hB7 : Bw w2 w6 := hB5.trans hB6
                        clear ho6 hB6 hac
                        obtain ⟨V, hV⟩ : ∃ V, valS ns gv k s n = V := ⟨_, rfl⟩
                        rw [hV] at ho7 Hvl Hnx ⊢
                        clear hV Hsink
                        go_wp2_with fail
                        go_loopw [10, 14] (fun v al wi => ∃ (em rest : List Int) (aa : Option Addr) (ac : Nat), al = .slice aa rest.length ac ∧ Own w2 wi (.slice aa rest.length ac) rest ∧ SelOk V em rest ∧ OwnR w2 wi v (L ++ recsAt n k s em) ∧ Bw w2 wi) (fun _ al _ => lenV al)
                        case atStart => exact ⟨[], V, aa, ac, rfl, ho7, SelOk.start V, by rw [show recsAt n k s [] = [] from rfl, List.append_nil]; exact hown6, hB7⟩
                        case round =>
                          obtain ⟨em, rest, aa2, ac2, rfl, ho8, hsel, hown8, hB8⟩ := hrel
                          rename World => w8
                          have hlens := hsel.lens
                          have Hsel := hide hsel
                          clear hsel ho7 hown6 hB7 hown5 hB5 z0 z1
                          have hvl3 := unhide Hvl
                          by_cases hr0 : 0 < rest.length
                          · obtain ⟨g, cap, e8, hg8, hg8l, hfr8, hc8⟩ := ho8.pos hr0
                            simp at e8
                            obtain ⟨rfl, rfl⟩ := e8
                            obtain ⟨m, hm⟩ : ∃ m, rest.length = m + 1 := ⟨rest.length - 1, by omega⟩
                            have Hm := hide hm
                            have hmi : (rest.length : Int) - 1 = (m : Int) := by omega
                            have hml : m < rest.length := by omega
                            have hmi2 : (m : Int) < (rest.length : Int) := by omega
                            have hle : rest.length ≤ ac2 := by
                              obtain ⟨_, _, e, h⟩ := ho8.slice
                              simp at e
                              omega
                            have hle2 : m ≤ ac2 := by omega
                            have hrm : rest.length ≤ 1000000 := by omega
                            clear hm
                            have Hbig : Hid ((L ++ recsAt n k s em).length + 1 ≤ 1000000000) := hide (by have := unhide Hll; rw [List.length_append, recsAt_len]; omega)
                            have Hrec : Hid (∀ x, recsAt n k s (em ++ [x]) = recsAt n k s em ++ [⟨n, 0, k, s, x⟩]) := hide (fun x => by simp [recsAt])
                            clear hlens hvl3 hc8 hfr8
                            go_wp2_with fail
                            refine (leastOf_any rest _ _ _ ho8.ints.1 hrm hr0).mono ?_
                            rintro en w9 ⟨i, rfl, hi, hmin, hB9⟩
                            have ho9 := ho8.bw hB9
                            have hown9 := hown8.bw hB9
                            obtain ⟨g', cap', e9, _, hgl9, hfr9, hc9⟩ := ho9.pos hr0
                            simp at e9
                            obtain ⟨rfl, rfl⟩ := e9
                            have d1 := hc9 i hi
                            have hj1 : (0 : Int) ≤ (i : Int) := by omega
                            have hj2 : (i : Int) < (rest.length : Int) := by omega
                            have hmm : (0 : Int) ≤ (m : Int) := by omega
                            have Hsel2 := hide ((unhide Hsel).step (unhide Hm) (by omega) hmin)
                            clear hmin hc9 hfr9
                            go_wp2_with (at_builtin; refine appT _ rfl _ _ _ 110 rfl _ 5 40 Try.infoRecord Try.underlying52 rfl (by decide) w2.heap.size _ (L ++ recsAt n k s em).length (nodeCells (L ++ recsAt n k s em)) rfl (hown9.bw (by repeat (first | exact Bw.refl _ | assumption | refine Bw.drew ?_ | refine Bw.drewN ?_ _ | refine Bw.alloc ?_ _ | refine Bw.trans ?_ (by assumption)))) _ _ (Nd.cells ⟨n, 0, k, s, nth rest i⟩) rfl rfl (cells5 (by simp) (by simp) (by simp) (by simp) (by simp)) (ndCells_one _) (unhide Hbig) (by omega) (Bw.size (by repeat (first | exact Bw.refl _ | assumption | refine Bw.drew ?_ | refine Bw.drewN ?_ _ | refine Bw.alloc ?_ _ | refine Bw.trans ?_ (by assumption)))) ?_; intro v' w10 hown10 hgr10; have hoA : Own w2 w10 (.slice (some ⟨g, 0, none⟩) rest.length ac2) rest := (ho9.bw (by repeat (first | exact Bw.refl _ | assumption | refine Bw.drew ?_ | refine Bw.drewN ?_ _ | refine Bw.alloc ?_ _ | refine Bw.trans ?_ (by assumption)))).grown (hown9.bw (by repeat (first | exact Bw.refl _ | assumption | refine Bw.drew ?_ | refine Bw.drewN ?_ _ | refine Bw.alloc ?_ _ | refine Bw.trans ?_ (by assumption)))) hgr10 (by decide); obtain ⟨gA, capA, eA, _, hglA, hfrA, hcA⟩ := hoA.pos hr0; simp at eA; obtain ⟨rfl, rfl⟩ := eA; have dA := hcA m hml; have dB := hcA i hi; have fA := hfrA i; clear hcA hfrA)
                            obtain ⟨_, curA, hblA⟩ := hoA.block
                            have htl : (takeOut rest i m).length = m := takeOut_len (unhide Hm)
                            refine ⟨⟨em ++ [nth rest i], takeOut rest i m, some ⟨g, 0, none⟩, ac2, by rw [htl], by rw [htl]; exact hoA.out (unhide Hm) (by omega), unhide Hsel2, ?_, ?_⟩, hml⟩
                            · rw [(unhide Hrec), ← List.append_assoc]
                              exact ownsRow_set hblA (OwnR.snoc hown10) (by decide)
                            · exact Bw.setCell (Bw.grown (by repeat (first | exact Bw.refl _ | assumption | refine Bw.drew ?_ | refine Bw.drewN ?_ _ | refine Bw.alloc ?_ _ | refine Bw.trans ?_ (by assumption))) (hown9.bw (by repeat (first | exact Bw.refl _ | assumption | refine Bw.drew ?_ | refine Bw.drewN ?_ _ | refine Bw.alloc ?_ _ | refine Bw.trans ?_ (by assumption)))) hgr10 (Nat.le_refl _)) hg8 _
                          · have hr1 : rest.length = 0 := by omega
                            have Hem := hide ((unhide Hsel).done hr1)
                            have hr2 : ¬ (0 : Int) < (rest.length : Int) := by omega
                            go_wp2_with fail
                            go_roundw
                            case rel => exact ⟨s + 1, by omega, by go_num, by rw [(unhide Hnx) em (unhide Hem), unhide HL]; exact hown8, hB8⟩
                            case measure => simp [intOf]; omega
                      · have hss : s = R := by omega
                        subst hss
                        have Hrw : Hid (timesUp s (k + 1) = timesUp s k ++ timesIn k s) := hide rfl
                        go_wp2_with fail
                        go_roundw
                        case rel => exact ⟨k + 1, by omega, by go_num, by rw [unhide Hrw]; exact hown5, hB5⟩
                        case measure => simp [intOf]; omega
                  · have hkk : k = 6 := by omega
                    subst hkk
                    go_wp2_with fail
                    go_roundw
                    case rel => exact ⟨n + 1, by omega, by go_num, by rw [unhide Hs]; exact hown4, hB4⟩
                    case measure => simp [intOf]; omega
            · have hnn : n = ns.length := by omega
              subst hnn
              go_wp2_with fail
              go_ret2
              exact ⟨_, by rw [unhide He]; rfl, by rw [meanL_ok (unhide He), Int.toNat_natCast]; exact hown3.weaken hBw2, hBw2.trans hB3⟩
end Go.Proofs.Ytfemleimkbjehaa
