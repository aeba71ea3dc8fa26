import Derived.Test.YtfemleimkbjehaaJ29
import Derived.Test.YtfemleimkbjehaaJ9
set_option maxRecDepth 1000000
set_option maxHeartbeats 40000000
set_option linter.unusedVariables false
set_option linter.unusedSimpArgs false
namespace Go.Proofs.Ytfemleimkbjehaa
open Go.RowKit
theorem xT (o : List Nd) (x : Nd) : (o ++ [x]).length = o.length + 1 := by simp
theorem Nd.wf.wk {x : Nd} (h : x.wf) (k : Int) (hk : mQ k) : (⟨k, x.a, x.b, x.k, x.m⟩ : Nd).wf := ⟨hk, h.2.1, h.2.2.1, h.2.2.2.1, h.2.2.2.2⟩
theorem rL {w : World} {g : Nat} {x : Nd} (h0 : w.cell? ⟨g, 0, none⟩ = some (.int .i64 x.kind)) (h1 : w.cell? ⟨g, 1, none⟩ = some (.int .i64 x.a)) (h2 : w.cell? ⟨g, 2, none⟩ = some (.int .i64 x.b)) (h3 : w.cell? ⟨g, 3, none⟩ = some (.int .i64 x.k)) (h4 : w.cell? ⟨g, 4, none⟩ = some (.int .i64 x.m)) :
    ∀ f, f < 5 → w.cell? ⟨g, f, none⟩ = x.cells[f]? := by
  intro f hf
  match f, hf with
  | 0, _ => exact h0
  | 1, _ => exact h1
  | 2, _ => exact h2
  | 3, _ => exact h3
  | 4, _ => exact h4
set_option maxRecDepth 100000 in
set_option maxHeartbeats 4000000 in
theorem fit_any (raw : List Nd) (ga : Option Addr) (gc : Nat) (r : Int) (w : World) (hn : NodesAt w ga raw) (hgl : raw.length ≤ maxLen) (hwf : ∀ j, j < raw.length → (qV raw j).wf) :
    Calls Try.prog 15 #[.agg #[.slice ga raw.length gc, .int .i64 r]] w fun e w' => ∃ (o : List Nd) (oa : Option Addr) (oc : Nat) (r' : Int), e = .returned (.agg #[.slice oa o.length oc, .int .i64 r']) ∧ FitOk o r' ∧ NodesAt w' oa o ∧ Bw w w' := by
  have hgl2 := hgl
  unfold maxLen at hgl2
  go_enter Try.func15, Try.ntmps15
  go_wp2_with fail
  refine (vL _ _ _ (zH _).1 (zH _).2 (by omega) (by omega)).mono ?_
  rintro e w1 ⟨rfl, rfl⟩
  obtain ⟨p1, p2⟩ := jC (wrap64 (r - 1)) (n := 4) (by omega)
  generalize jT (wrap64 (r - 1)) 4 = rp at p1 p2
  go_wp2_with fail
  go_loopw [4, 5] (fun mv i wr => ∃ (o : List Nd) (m : Int) (v : Value), i = .int .i64 o.length ∧ mv = .int .i64 m ∧ o.length ≤ raw.length ∧ o.length ≤ 8 ∧ Raw1 o m ∧ OwnN (((w.alloc (.cells #[.slice ga raw.length gc, .int .i64 r] 24)).alloc (.cells #[.slice none 0 0, .int .i64 0] 24)).alloc (.cells #[.slice none 0 0, .int .i64 (1 + rp)] 24)) wr v o ∧
      wr.cell? ⟨w.heap.size + 1 + 1, 0, none⟩ = some v ∧ wr.cell? ⟨w.heap.size + 1 + 1, 1, none⟩ = some (.int .i64 (1 + rp)) ∧ (∀ k, wr.frozen? ⟨w.heap.size + 1 + 1, k, none⟩ = false) ∧ Bw ((w.alloc (.cells #[.slice ga raw.length gc, .int .i64 r] 24)).alloc (.cells #[.slice none 0 0, .int .i64 0] 24)) wr ∧ w.heap.size + 1 + 1 + 1 ≤ wr.heap.size)
    (fun _ i _ => 8 - (intOf i).toNat)
  case atStart => exact ⟨[], 0, .slice none 0 0, rfl, rfl, Nat.zero_le _, Nat.zero_le _, Raw1.nil, OwnN.nil _ _, by simp [go_sem], by simp [go_sem], fun k => by simp [go_sem], (by repeat first|exact br _|assumption|apply bd|apply bn|apply ba|refine bt ?_ (by assumption)), by simp⟩
  case round =>
    obtain ⟨o, m, v, rfl, rfl, ho1, ho8, hR, hown, e0, e1, hfr, hB, hsz⟩ := hrel
    obtain ⟨gcc, gff⟩ := qX hB
    have hmlo := hR.lo
    have hmhi := hR.hi
    obtain ⟨va, vc, rfl, hvx, _⟩ := hown.form
    by_cases hlt : o.length < raw.length ∧ o.length < 8
    · obtain ⟨hlt1, hlt8⟩ := hlt
      obtain ⟨b, off, rfl, hb, hc⟩ := hn o.length hlt1
      obtain ⟨c0, c1, c2, c3, c4⟩ := hc o.length hlt1
      have hcw : ∀ k, wr.cell? ⟨b, k, none⟩ = w.cell? ⟨b, k, none⟩ := fun k => (qX (show Bw w wr from (by repeat first|exact br _|assumption|apply bd|apply bn|apply ba|refine bt ?_ (by assumption)))).1 b k hb
      rw [← hcw] at c0 c1 c2 c3 c4
      clear hc hcw
      have hw1 := hwf o.length hlt1
      have Hw1 := qJ hw1
      obtain ⟨⟨wk1, wk2⟩, _⟩ := hw1
      generalize qV raw o.length = x at c0 c1 c2 c3 c4 Hw1 wk1 wk2
      obtain ⟨κ, xa, xb, xk, xm⟩ := x
      simp only at c0 c1 c2 c3 c4 wk1 wk2
      have hd1 : decide ((o.length : Int) < 8) = true := by simp; omega
      go_wp2_with fail
      refine (vL _ _ _ wk1 wk2 (by omega) (by omega)).mono ?_
      rintro e w3 ⟨rfl, rfl⟩
      obtain ⟨q1, q2⟩ := jC κ (n := 8) (by omega)
      generalize jT κ 8 = kp at q1 q2
      have hsz2 : w.heap.size + 1 + 1 < wr.heap.size := by omega
      have hsz3 : w.heap.size + 1 + 1 < wr.heap.size + 1 := by omega
      by_cases hk0 : o.length = 0
      · have hk0' : ((o.length : Int) == 0) = true := by simp [hk0]
        have Hk0 := qJ hk0
        clear hk0
        by_cases h3 : kp = 3
        · have h3' : (kp == 3) = true := by simp [h3]
          have hm3 : m + 1 ≤ 3 := by have := qK Hk0; omega
          clear h3
          go_wp2_with (at_builtin; (refine cD _ rfl _ _ rfl (((w.alloc (.cells #[.slice (some ⟨b, off, none⟩) raw.length gc, .int .i64 r] 24)).alloc (.cells #[.slice none 0 0, .int .i64 0] 24)).alloc (.cells #[.slice none 0 0, .int .i64 (1 + rp)] 24)) _ o rfl (hown.bw (by repeat first|exact br _|assumption|apply bd|apply bn|apply ba|refine bt ?_ (by assumption))) _ _ ⟨0, xa, xb, xk, xm⟩ rfl (rL (by simp) (by simp) (by simp) (by simp) (by simp)) (by omega) (by simp; omega) ?_; intro v4 w4 hown4 hcl4 hfr4 hsz4 hV4; obtain ⟨a4, cc4, e4, _, _⟩ := hown4.form; rw [xT] at e4; subst e4; have f0 : w4.cell? ⟨w.heap.size + 1 + 1, 0, none⟩ = some (.slice va o.length vc) := (by rw [hcl4 _ _ (by simp)]; simp [go_sem, hsz2, hsz3, e0]); have f1 : w4.cell? ⟨w.heap.size + 1 + 1, 1, none⟩ = some (.int .i64 (1 + rp)) := (by rw [hcl4 _ _ (by simp)]; simp [go_sem, hsz2, hsz3, e1]); have f2 : ∀ k, w4.frozen? ⟨w.heap.size + 1 + 1, k, none⟩ = false := (fun k => by rw [hfr4 _ _ (by simp)]; simp [go_sem, hsz2, hsz3, hfr]); clear hcl4 hfr4))
          go_roundw
          case rel => exact ⟨o ++ [⟨0, xa, xb, xk, xm⟩], m + 1, .slice a4 (o.length + 1) cc4, by simp, rfl, by simp; omega, by simp; omega, hR.snoc (by simp) (by simp) ((qK Hw1).wk 0 (by simp [mQ])) (fun _ => rfl) (by omega) (by omega) (by simp), hown4.setOther (by simp), gG f0, (gF (by omega)).trans f1, fun k => by simp [f2], (hV4 _ (by repeat first|exact br _|assumption|apply bd|apply bn|apply ba|refine bt ?_ (by assumption)) (by simp)).setCell (by simp) _, by have := hsz4; simp at this ⊢; omega⟩
          case measure => simp [intOf]; omega
        · have h3' : (kp == 3) = false := by simpa using h3
          clear h3
          go_wp2_with (at_builtin; (refine cD _ rfl _ _ rfl (((w.alloc (.cells #[.slice (some ⟨b, off, none⟩) raw.length gc, .int .i64 r] 24)).alloc (.cells #[.slice none 0 0, .int .i64 0] 24)).alloc (.cells #[.slice none 0 0, .int .i64 (1 + rp)] 24)) _ o rfl (hown.bw (by repeat first|exact br _|assumption|apply bd|apply bn|apply ba|refine bt ?_ (by assumption))) _ _ ⟨0, xa, xb, xk, xm⟩ rfl (rL (by simp) (by simp) (by simp) (by simp) (by simp)) (by omega) (by simp; omega) ?_; intro v4 w4 hown4 hcl4 hfr4 hsz4 hV4; obtain ⟨a4, cc4, e4, _, _⟩ := hown4.form; rw [xT] at e4; subst e4; have f0 : w4.cell? ⟨w.heap.size + 1 + 1, 0, none⟩ = some (.slice va o.length vc) := (by rw [hcl4 _ _ (by simp)]; simp [go_sem, hsz2, hsz3, e0]); have f1 : w4.cell? ⟨w.heap.size + 1 + 1, 1, none⟩ = some (.int .i64 (1 + rp)) := (by rw [hcl4 _ _ (by simp)]; simp [go_sem, hsz2, hsz3, e1]); have f2 : ∀ k, w4.frozen? ⟨w.heap.size + 1 + 1, k, none⟩ = false := (fun k => by rw [hfr4 _ _ (by simp)]; simp [go_sem, hsz2, hsz3, hfr]); clear hcl4 hfr4))
          go_roundw
          case rel => exact ⟨o ++ [⟨0, xa, xb, xk, xm⟩], m, .slice a4 (o.length + 1) cc4, by simp, rfl, by simp; omega, by simp; omega, hR.snoc (by simp) (by simp) ((qK Hw1).wk 0 (by simp [mQ])) (fun _ => rfl) (by omega) (by omega) (by simp), hown4.setOther (by simp), gG f0, (gF (by omega)).trans f1, fun k => by simp [f2], (hV4 _ (by repeat first|exact br _|assumption|apply bd|apply bn|apply ba|refine bt ?_ (by assumption)) (by simp)).setCell (by simp) _, by have := hsz4; simp at this ⊢; omega⟩
          case measure => simp [intOf]; omega
      · have hk0' : ((o.length : Int) == 0) = false := by simp; intro h; exact hk0 (by simp [h])
        have Hk0 := qJ hk0
        clear hk0
        by_cases h3 : kp = 3
        · have h3' : (kp == 3) = true := by simp [h3]
          have H3 := qJ h3
          clear h3
          by_cases hm3 : m + 1 ≤ 3
          · have hm4 : ¬ 3 < m + 1 := by omega
            go_wp2_with (at_builtin; (refine cD _ rfl _ _ rfl (((w.alloc (.cells #[.slice (some ⟨b, off, none⟩) raw.length gc, .int .i64 r] 24)).alloc (.cells #[.slice none 0 0, .int .i64 0] 24)).alloc (.cells #[.slice none 0 0, .int .i64 (1 + rp)] 24)) _ o rfl (hown.bw (by repeat first|exact br _|assumption|apply bd|apply bn|apply ba|refine bt ?_ (by assumption))) _ _ ⟨kp, xa, xb, xk, xm⟩ rfl (rL (by simp) (by simp) (by simp) (by simp) (by simp)) (by omega) (by simp; omega) ?_; intro v4 w4 hown4 hcl4 hfr4 hsz4 hV4; obtain ⟨a4, cc4, e4, _, _⟩ := hown4.form; rw [xT] at e4; subst e4; have f0 : w4.cell? ⟨w.heap.size + 1 + 1, 0, none⟩ = some (.slice va o.length vc) := (by rw [hcl4 _ _ (by simp)]; simp [go_sem, hsz2, hsz3, e0]); have f1 : w4.cell? ⟨w.heap.size + 1 + 1, 1, none⟩ = some (.int .i64 (1 + rp)) := (by rw [hcl4 _ _ (by simp)]; simp [go_sem, hsz2, hsz3, e1]); have f2 : ∀ k, w4.frozen? ⟨w.heap.size + 1 + 1, k, none⟩ = false := (fun k => by rw [hfr4 _ _ (by simp)]; simp [go_sem, hsz2, hsz3, hfr]); clear hcl4 hfr4))
            go_roundw
            case rel => exact ⟨o ++ [⟨kp, xa, xb, xk, xm⟩], m + 1, .slice a4 (o.length + 1) cc4, by simp, rfl, by simp; omega, by simp; omega, hR.snoc (by simp; omega) (by simp; omega) ((qK Hw1).wk kp ⟨by omega, by omega⟩) (fun h => absurd h (qK Hk0)) (by omega) (by omega) (fun _ => ⟨rfl, hm3⟩), hown4.setOther (by simp), gG f0, (gF (by omega)).trans f1, fun k => by simp [f2], (hV4 _ (by repeat first|exact br _|assumption|apply bd|apply bn|apply ba|refine bt ?_ (by assumption)) (by simp)).setCell (by simp) _, by have := hsz4; simp at this ⊢; omega⟩
            case measure => simp [intOf]; omega
          · have hm4 : 3 < m + 1 := by omega
            go_wp2_with (at_builtin; (refine cD _ rfl _ _ rfl (((w.alloc (.cells #[.slice (some ⟨b, off, none⟩) raw.length gc, .int .i64 r] 24)).alloc (.cells #[.slice none 0 0, .int .i64 0] 24)).alloc (.cells #[.slice none 0 0, .int .i64 (1 + rp)] 24)) _ o rfl (hown.bw (by repeat first|exact br _|assumption|apply bd|apply bn|apply ba|refine bt ?_ (by assumption))) _ _ ⟨1, xa, xb, xk, xm⟩ rfl (rL (by simp) (by simp) (by simp) (by simp) (by simp)) (by omega) (by simp; omega) ?_; intro v4 w4 hown4 hcl4 hfr4 hsz4 hV4; obtain ⟨a4, cc4, e4, _, _⟩ := hown4.form; rw [xT] at e4; subst e4; have f0 : w4.cell? ⟨w.heap.size + 1 + 1, 0, none⟩ = some (.slice va o.length vc) := (by rw [hcl4 _ _ (by simp)]; simp [go_sem, hsz2, hsz3, e0]); have f1 : w4.cell? ⟨w.heap.size + 1 + 1, 1, none⟩ = some (.int .i64 (1 + rp)) := (by rw [hcl4 _ _ (by simp)]; simp [go_sem, hsz2, hsz3, e1]); have f2 : ∀ k, w4.frozen? ⟨w.heap.size + 1 + 1, k, none⟩ = false := (fun k => by rw [hfr4 _ _ (by simp)]; simp [go_sem, hsz2, hsz3, hfr]); clear hcl4 hfr4))
            go_roundw
            case rel => exact ⟨o ++ [⟨1, xa, xb, xk, xm⟩], m + 1, .slice a4 (o.length + 1) cc4, by simp, rfl, by simp; omega, by simp; omega, hR.snoc (by simp) (by simp) ((qK Hw1).wk 1 (by simp [mQ])) (fun h => absurd h (qK Hk0)) (by omega) (by omega) (by simp), hown4.setOther (by simp), gG f0, (gF (by omega)).trans f1, fun k => by simp [f2], (hV4 _ (by repeat first|exact br _|assumption|apply bd|apply bn|apply ba|refine bt ?_ (by assumption)) (by simp)).setCell (by simp) _, by have := hsz4; simp at this ⊢; omega⟩
            case measure => simp [intOf]; omega
        · have h3' : (kp == 3) = false := by simpa using h3
          have H3 := qJ h3
          clear h3
          go_wp2_with (at_builtin; (refine cD _ rfl _ _ rfl (((w.alloc (.cells #[.slice (some ⟨b, off, none⟩) raw.length gc, .int .i64 r] 24)).alloc (.cells #[.slice none 0 0, .int .i64 0] 24)).alloc (.cells #[.slice none 0 0, .int .i64 (1 + rp)] 24)) _ o rfl (hown.bw (by repeat first|exact br _|assumption|apply bd|apply bn|apply ba|refine bt ?_ (by assumption))) _ _ ⟨kp, xa, xb, xk, xm⟩ rfl (rL (by simp) (by simp) (by simp) (by simp) (by simp)) (by omega) (by simp; omega) ?_; intro v4 w4 hown4 hcl4 hfr4 hsz4 hV4; obtain ⟨a4, cc4, e4, _, _⟩ := hown4.form; rw [xT] at e4; subst e4; have f0 : w4.cell? ⟨w.heap.size + 1 + 1, 0, none⟩ = some (.slice va o.length vc) := (by rw [hcl4 _ _ (by simp)]; simp [go_sem, hsz2, hsz3, e0]); have f1 : w4.cell? ⟨w.heap.size + 1 + 1, 1, none⟩ = some (.int .i64 (1 + rp)) := (by rw [hcl4 _ _ (by simp)]; simp [go_sem, hsz2, hsz3, e1]); have f2 : ∀ k, w4.frozen? ⟨w.heap.size + 1 + 1, k, none⟩ = false := (fun k => by rw [hfr4 _ _ (by simp)]; simp [go_sem, hsz2, hsz3, hfr]); clear hcl4 hfr4))
          go_roundw
          case rel => exact ⟨o ++ [⟨kp, xa, xb, xk, xm⟩], m, .slice a4 (o.length + 1) cc4, by simp, rfl, by simp; omega, by simp; omega, hR.snoc (by simp; omega) (by simp; omega) ((qK Hw1).wk kp ⟨by omega, by omega⟩) (fun h => absurd h (qK Hk0)) (by omega) (by omega) (fun h => absurd h (qK H3)), hown4.setOther (by simp), gG f0, (gF (by omega)).trans f1, fun k => by simp [f2], (hV4 _ (by repeat first|exact br _|assumption|apply bd|apply bn|apply ba|refine bt ?_ (by assumption)) (by simp)).setCell (by simp) _, by have := hsz4; simp at this ⊢; omega⟩
          case measure => simp [intOf]; omega
    · have hsz2 : w.heap.size + 1 + 1 < wr.heap.size := by omega
      have hsz3 : w.heap.size + 1 + 1 < wr.heap.size + 1 := by omega
      by_cases hk0 : o.length = 0
      · have hk0' : ((o.length : Int) == 0) = true := by simp [hk0]
        have ho : o = [] := List.eq_nil_of_length_eq_zero hk0
        have hR2 : Raw1 [⟨0, 0, 0, 0, 0⟩, ⟨7, 0, 0, 0, 0⟩] m := by
          subst ho
          have := (hR.snoc (m' := m) (x := ⟨0, 0, 0, 0, 0⟩) (by simp) (by simp) (by simp [Nd.wf, mQ]) (fun _ => rfl) (by omega) (by omega) (by simp)).snoc (m' := m) (x := ⟨7, 0, 0, 0, 0⟩) (by simp) (by simp) (by simp [Nd.wf, mQ]) (fun h => by simp at h) (by omega) (by omega) (by simp)
          simpa using this
        subst ho
        clear hk0
        have hr0 : raw.length ≤ 0 := by have h : ¬ (0 < raw.length ∧ 0 < 8) := hlt; omega
        simp only [List.length_nil] at e0 hown hvx
        go_wp2_with (at_builtin; (refine appNds _ rfl _ _ rfl (((w.alloc (.cells #[.slice ga raw.length gc, .int .i64 r] 24)).alloc (.cells #[.slice none 0 0, .int .i64 0] 24)).alloc (.cells #[.slice none 0 0, .int .i64 (1 + rp)] 24)) _ [] rfl (hown.bw (by repeat first|exact br _|assumption|apply bd|apply bn|apply ba|refine bt ?_ (by assumption))) _ _ [⟨0, 0, 0, 0, 0⟩, ⟨7, 0, 0, 0, 0⟩] rfl (by simp) (fun f u hf => qQ (cs := (qM [⟨0, 0, 0, 0, 0⟩, ⟨7, 0, 0, 0, 0⟩]).toArray) (qN _ _ (by simp)) (by simpa using hf)) (by simp) (by simp; omega) ?_; intro v4 w4 hown4 hcl4 hfr4 hsz4 hV4; obtain ⟨ns1, hE⟩ : ∃ ns1 : List Nd, ns1 = [] ++ [⟨0, 0, 0, 0, 0⟩, ⟨7, 0, 0, 0, 0⟩] := ⟨_, rfl⟩; rw [← hE] at hown4; have hl1 : 1 ≤ ns1.length := (by rw [hE]; simp); have hl8 : ns1.length ≤ 8 := (by rw [hE]; simp); have hR4 : Raw1 ns1 m := (by rw [hE]; exact hR2); clear hE; obtain ⟨a4, cc4, e4, _, _⟩ := hown4.form; subst e4; have f0 : w4.cell? ⟨w.heap.size + 1 + 1, 0, none⟩ = some (.slice va 0 vc) := (by rw [hcl4 _ _ (by simp)]; simp [go_sem, hsz2, e0]); have f1 : w4.cell? ⟨w.heap.size + 1 + 1, 1, none⟩ = some (.int .i64 (1 + rp)) := (by rw [hcl4 _ _ (by simp)]; simp [go_sem, hsz2, e1]); have f2 : ∀ k, w4.frozen? ⟨w.heap.size + 1 + 1, k, none⟩ = false := (fun k => by rw [hfr4 _ _ (by simp)]; simp [go_sem, hsz2, hfr]); clear hcl4 hfr4))
        obtain ⟨wq, hwq⟩ : ∃ wq, wq = w4.setCell ⟨w.heap.size + 1 + 1, 0, none⟩ (.slice a4 ns1.length cc4) := ⟨_, rfl⟩
        have g0 : wq.cell? ⟨w.heap.size + 1 + 1, 0, none⟩ = some (.slice a4 ns1.length cc4) := by rw [hwq]; exact gG f0
        have g1 : wq.cell? ⟨w.heap.size + 1 + 1, 1, none⟩ = some (.int .i64 (1 + rp)) := by rw [hwq]; exact (gF (by omega)).trans f1
        have hownq : OwnN (((w.alloc (.cells #[.slice ga raw.length gc, .int .i64 r] 24)).alloc (.cells #[.slice none 0 0, .int .i64 0] 24)).alloc (.cells #[.slice none 0 0, .int .i64 (1 + rp)] 24)) wq (.slice a4 ns1.length cc4) ns1 := by rw [hwq]; exact hown4.setOther (by simp)
        have hBq0 : Bw ((w.alloc (.cells #[.slice ga raw.length gc, .int .i64 r] 24)).alloc (.cells #[.slice none 0 0, .int .i64 0] 24)) wq := by rw [hwq]; exact (hV4 _ (by repeat first|exact br _|assumption|apply bd|apply bn|apply ba|refine bt ?_ (by assumption)) (by simp)).setCell (by simp) _
        have hBz : w.heap.size + 1 + 1 < wq.heap.size := by rw [hwq]; have := hsz4; simp at this ⊢; omega
        have hqs0 : wq.heap.size = w4.heap.size := by rw [hwq]; simp
        rw [← hwq]
        have hgn : NodesAt wq a4 ns1 := hownq.nodes
        clear hwq f0 f1 f2 hown4 hV4 hsz4
        have hqs : wq.heap.size = w4.heap.size := hqs0
        go_loopw [8] (fun i wi => ∃ (o2 : List Nd) (v2 : Value), i = .int .i64 o2.length ∧ o2.length ≤ ns1.length ∧ Fits ns1 o2 ∧ OwnN (wq.alloc (.cells #[.slice none 0 0, .int .i64 (1 + rp)] 24)) wi v2 o2 ∧
            wi.cell? ⟨w4.heap.size, 0, none⟩ = some v2 ∧ wi.cell? ⟨w4.heap.size, 1, none⟩ = some (.int .i64 (1 + rp)) ∧ (∀ k, wi.frozen? ⟨w4.heap.size, k, none⟩ = false) ∧ Bw wq wi ∧ w4.heap.size + 1 ≤ wi.heap.size)
          (fun i _ => ns1.length - (intOf i).toNat)
        case atStart => exact ⟨[], .slice none 0 0, rfl, Nat.zero_le _, fun j hj => absurd hj (Nat.not_lt_zero j), OwnN.nil _ _, by rw [← hqs]; simp, by rw [← hqs]; simp, fun k => by rw [← hqs]; simp, (by repeat first|exact br _|assumption|apply bd|apply bn|apply ba|refine bt ?_ (by assumption)), by rw [← hqs]; simp⟩
        case round =>
          obtain ⟨o2, v2, rfl, hl2, hF, hown2, s0, s1, sf, hBq, hsq⟩ := hrel
          obtain ⟨va2, vc2, rfl, hvx2, _⟩ := hown2.form
          have hgq : NodesAt wr a4 ns1 := hgn.below hBq
          have g0' : wr.cell? ⟨w.heap.size + 1 + 1, 0, none⟩ = some (.slice a4 ns1.length cc4) := ((qX hBq).1 _ _ hBz).trans g0
          have g1' : wr.cell? ⟨w.heap.size + 1 + 1, 1, none⟩ = some (.int .i64 (1 + rp)) := ((qX hBq).1 _ _ hBz).trans g1
          have hBz2 : w.heap.size + 1 + 1 < wr.heap.size := Nat.lt_of_lt_of_le hBz hBq.size
          by_cases hlt2 : o2.length < ns1.length
          · go_wp2_with fail
            refine (gJ ns1 _ _ _ o2.length _ hgq hl8 hlt2 (hR4.kinds _ hlt2).2.2 (hR4.kinds _ hlt2).1 (hR4.kinds _ hlt2).2.1 (hR4.first (by omega))).mono ?_
            rintro e w5 ⟨⟨yk, ya, yb, yK, yM⟩, rfl, hfit, hb5⟩
            simp only [Nd.val]
            have t0 := ((qX hb5).1 w4.heap.size 0 (by omega)).trans s0
            have t1 := ((qX hb5).1 w4.heap.size 1 (by omega)).trans s1
            have tf : ∀ k, w5.frozen? ⟨w4.heap.size, k, none⟩ = false := fun k => ((qX hb5).2 w4.heap.size k (by omega)).trans (sf k)
            have hz5 : w4.heap.size < w5.heap.size := by have := hb5.size; omega
            have hz6 : w4.heap.size < w5.heap.size + 1 := by omega
            have hB5q : Bw wq w5 := hBq.trans hb5
            go_wp2_with (at_builtin; (refine cD _ rfl _ _ rfl (wq.alloc (.cells #[.slice none 0 0, .int .i64 (1 + rp)] 24)) _ o2 rfl (hown2.bw (by repeat first|exact br _|assumption|apply bd|apply bn|apply ba|refine bt ?_ (by assumption))) _ _ ⟨yk, ya, yb, yK, yM⟩ rfl (rL (by simp) (by simp) (by simp) (by simp) (by simp)) (by omega) (by simp; omega) ?_; intro v6 w6 hown6 hcl6 hfr6 hsz6 hV6; obtain ⟨a6, cc6, e6, _, _⟩ := hown6.form; rw [xT] at e6; subst e6; have f0 : w6.cell? ⟨w4.heap.size, 0, none⟩ = some (.slice va2 o2.length vc2) := (by rw [hcl6 _ _ (by simp; omega)]; simp [go_sem, hz5, hz6, t0]); have f1 : w6.cell? ⟨w4.heap.size, 1, none⟩ = some (.int .i64 (1 + rp)) := (by rw [hcl6 _ _ (by simp; omega)]; simp [go_sem, hz5, hz6, t1]); have f2 : ∀ k, w6.frozen? ⟨w4.heap.size, k, none⟩ = false := (fun k => by rw [hfr6 _ _ (by simp; omega)]; simp [go_sem, hz5, hz6, tf]); clear hcl6 hfr6))
            go_roundw
            case rel => exact ⟨o2 ++ [⟨yk, ya, yb, yK, yM⟩], .slice a6 (o2.length + 1) cc6, by simp, by simp; omega, hF.snoc hfit, hown6.setOther (by simp; omega), gG f0, (gF (by omega)).trans f1, fun k => by simp [f2], (hV6 _ (by repeat first|exact br _|assumption|apply bd|apply bn|apply ba|refine bt ?_ (by assumption)) (by simp <;> omega)).setCell (by simp only; omega) _, by have := hsz6; simp at this ⊢; omega⟩
            case measure => simp [intOf]; omega
          · have hll : o2.length = ns1.length := by omega
            have hk : FitOk o2 (1 + rp) := fit_ok hR4 hF hll hl1 hl8 (by omega) (by omega)
            have hBr : Bw ((w.alloc (.cells #[.slice ga raw.length gc, .int .i64 r] 24)).alloc (.cells #[.slice none 0 0, .int .i64 0] 24)) wr := hBq0.trans hBq
            have u0 : wr.cell? ⟨w.heap.size + 1, 0, none⟩ = some (.slice none 0 0) := ((qX hBr).1 _ _ (by simp)).trans (by simp)
            have u1 : wr.cell? ⟨w.heap.size + 1, 1, none⟩ = some (.int .i64 0) := ((qX hBr).1 _ _ (by simp)).trans (by simp)
            have uf : ∀ k, wr.frozen? ⟨w.heap.size + 1, k, none⟩ = false := fun k => ((qX hBr).2 _ _ (by simp)).trans (by simp)
            have Hll := qJ hll
            clear hll
            go_wp2_with fail
            refine bodyPost_ret (v := .agg #[.slice va2 o2.length vc2, .int .i64 (1 + rp)]) (by simp [results, Try.results15, go_sem, u0, u1]) rfl ⟨o2, va2, vc2, 1 + rp, rfl, hk, ?_, ?_⟩
            · exact ((hown2.setOther (by simp; omega)).setOther (by simp; omega)).nodes
            · refine Bw.setCell (Bw.setCell ?_ (by simp only; omega) _) (by simp only; omega) _
              exact (by repeat first|exact br _|assumption|apply bd|apply bn|apply ba|refine bt ?_ (by assumption))
      · have hk0' : ((o.length : Int) == 0) = false := by simp; intro h; exact hk0 (by simp [h])
        have hl1 : 1 ≤ o.length := by omega
        clear hk0
        have hgn : NodesAt wr va o := hvx
        have hBq0 := hB
        have hBz := hsz2
        have g0 := e0
        have g1 := e1
        rename World => wq
        by_cases hra : o.length < raw.length
        · have h8' : ¬ o.length < 8 := fun h => hlt ⟨hra, h⟩
          clear hlt
          go_wp2_with fail
          go_loopw [8] (fun i wi => ∃ (o2 : List Nd) (v2 : Value), i = .int .i64 o2.length ∧ o2.length ≤ o.length ∧ Fits o o2 ∧ OwnN (wq.alloc (.cells #[.slice none 0 0, .int .i64 (1 + rp)] 24)) wi v2 o2 ∧
              wi.cell? ⟨wq.heap.size, 0, none⟩ = some v2 ∧ wi.cell? ⟨wq.heap.size, 1, none⟩ = some (.int .i64 (1 + rp)) ∧ (∀ k, wi.frozen? ⟨wq.heap.size, k, none⟩ = false) ∧ Bw wq wi ∧ wq.heap.size + 1 ≤ wi.heap.size)
            (fun i _ => o.length - (intOf i).toNat)
          case atStart => exact ⟨[], .slice none 0 0, rfl, Nat.zero_le _, fun j hj => absurd hj (Nat.not_lt_zero j), OwnN.nil _ _, by simp, by simp, fun k => by simp, (by repeat first|exact br _|assumption|apply bd|apply bn|apply ba|refine bt ?_ (by assumption)), by simp⟩
          case round =>
            obtain ⟨o2, v2, rfl, hl2, hF, hown2, s0, s1, sf, hBq, hsq⟩ := hrel
            obtain ⟨va2, vc2, rfl, hvx2, _⟩ := hown2.form
            have hgq : NodesAt wr va o := hgn.below hBq
            have g0' : wr.cell? ⟨w.heap.size + 1 + 1, 0, none⟩ = some (.slice va o.length vc) := ((qX hBq).1 _ _ hBz).trans g0
            have g1' : wr.cell? ⟨w.heap.size + 1 + 1, 1, none⟩ = some (.int .i64 (1 + rp)) := ((qX hBq).1 _ _ hBz).trans g1
            have hBz2 : w.heap.size + 1 + 1 < wr.heap.size := Nat.lt_of_lt_of_le hBz hBq.size
            by_cases hlt2 : o2.length < o.length
            · go_wp2_with fail
              refine (gJ o _ _ _ o2.length _ hgq ho8 hlt2 (hR.kinds _ hlt2).2.2 (hR.kinds _ hlt2).1 (hR.kinds _ hlt2).2.1 (hR.first (by omega))).mono ?_
              rintro e w5 ⟨⟨yk, ya, yb, yK, yM⟩, rfl, hfit, hb5⟩
              simp only [Nd.val]
              have t0 := ((qX hb5).1 wq.heap.size 0 (by omega)).trans s0
              have t1 := ((qX hb5).1 wq.heap.size 1 (by omega)).trans s1
              have tf : ∀ k, w5.frozen? ⟨wq.heap.size, k, none⟩ = false := fun k => ((qX hb5).2 wq.heap.size k (by omega)).trans (sf k)
              have hz5 : wq.heap.size < w5.heap.size := by have := hb5.size; omega
              have hz6 : wq.heap.size < w5.heap.size + 1 := by omega
              have hB5q : Bw wq w5 := hBq.trans hb5
              go_wp2_with (at_builtin; (refine cD _ rfl _ _ rfl (wq.alloc (.cells #[.slice none 0 0, .int .i64 (1 + rp)] 24)) _ o2 rfl (hown2.bw (by repeat first|exact br _|assumption|apply bd|apply bn|apply ba|refine bt ?_ (by assumption))) _ _ ⟨yk, ya, yb, yK, yM⟩ rfl (rL (by simp) (by simp) (by simp) (by simp) (by simp)) (by omega) (by simp <;> omega) ?_; intro v6 w6 hown6 hcl6 hfr6 hsz6 hV6; obtain ⟨a6, cc6, e6, _, _⟩ := hown6.form; rw [xT] at e6; subst e6; have f0 : w6.cell? ⟨wq.heap.size, 0, none⟩ = some (.slice va2 o2.length vc2) := (by rw [hcl6 _ _ (by simp <;> omega)]; simp [go_sem, hz5, hz6, t0]); have f1 : w6.cell? ⟨wq.heap.size, 1, none⟩ = some (.int .i64 (1 + rp)) := (by rw [hcl6 _ _ (by simp <;> omega)]; simp [go_sem, hz5, hz6, t1]); have f2 : ∀ k, w6.frozen? ⟨wq.heap.size, k, none⟩ = false := (fun k => by rw [hfr6 _ _ (by simp <;> omega)]; simp [go_sem, hz5, hz6, tf]); clear hcl6 hfr6))
              go_roundw
              case rel => exact ⟨o2 ++ [⟨yk, ya, yb, yK, yM⟩], .slice a6 (o2.length + 1) cc6, by simp, by simp; omega, hF.snoc hfit, hown6.setOther (by simp <;> omega), gG f0, (gF (by omega)).trans f1, fun k => by simp [f2], (hV6 _ (by repeat first|exact br _|assumption|apply bd|apply bn|apply ba|refine bt ?_ (by assumption)) (by simp <;> omega)).setCell (by simp only; omega) _, by have := hsz6; simp at this ⊢ <;> omega⟩
              case measure => simp [intOf]; omega
            · have hll : o2.length = o.length := by omega
              have hk : FitOk o2 (1 + rp) := fit_ok hR hF hll hl1 ho8 (by omega) (by omega)
              have hBr : Bw ((w.alloc (.cells #[.slice ga raw.length gc, .int .i64 r] 24)).alloc (.cells #[.slice none 0 0, .int .i64 0] 24)) wr := hBq0.trans hBq
              have u0 : wr.cell? ⟨w.heap.size + 1, 0, none⟩ = some (.slice none 0 0) := ((qX hBr).1 _ _ (by simp)).trans (by simp)
              have u1 : wr.cell? ⟨w.heap.size + 1, 1, none⟩ = some (.int .i64 0) := ((qX hBr).1 _ _ (by simp)).trans (by simp)
              have uf : ∀ k, wr.frozen? ⟨w.heap.size + 1, k, none⟩ = false := fun k => ((qX hBr).2 _ _ (by simp)).trans (by simp)
              have Hll := qJ hll
              clear hll
              go_wp2_with fail
              refine bodyPost_ret (v := .agg #[.slice va2 o2.length vc2, .int .i64 (1 + rp)]) (by simp [results, Try.results15, go_sem, u0, u1]) rfl ⟨o2, va2, vc2, 1 + rp, rfl, hk, ?_, ?_⟩
              · exact ((hown2.setOther (by simp <;> omega)).setOther (by simp <;> omega)).nodes
              · refine Bw.setCell (Bw.setCell ?_ (by simp only; omega) _) (by simp only; omega) _
                exact (by repeat first|exact br _|assumption|apply bd|apply bn|apply ba|refine bt ?_ (by assumption))
        · clear hlt
          go_wp2_with fail
          go_loopw [8] (fun i wi => ∃ (o2 : List Nd) (v2 : Value), i = .int .i64 o2.length ∧ o2.length ≤ o.length ∧ Fits o o2 ∧ OwnN (wq.alloc (.cells #[.slice none 0 0, .int .i64 (1 + rp)] 24)) wi v2 o2 ∧
              wi.cell? ⟨wq.heap.size, 0, none⟩ = some v2 ∧ wi.cell? ⟨wq.heap.size, 1, none⟩ = some (.int .i64 (1 + rp)) ∧ (∀ k, wi.frozen? ⟨wq.heap.size, k, none⟩ = false) ∧ Bw wq wi ∧ wq.heap.size + 1 ≤ wi.heap.size)
            (fun i _ => o.length - (intOf i).toNat)
          case atStart => exact ⟨[], .slice none 0 0, rfl, Nat.zero_le _, fun j hj => absurd hj (Nat.not_lt_zero j), OwnN.nil _ _, by simp, by simp, fun k => by simp, (by repeat first|exact br _|assumption|apply bd|apply bn|apply ba|refine bt ?_ (by assumption)), by simp⟩
          case round =>
            obtain ⟨o2, v2, rfl, hl2, hF, hown2, s0, s1, sf, hBq, hsq⟩ := hrel
            obtain ⟨va2, vc2, rfl, hvx2, _⟩ := hown2.form
            have hgq : NodesAt wr va o := hgn.below hBq
            have g0' : wr.cell? ⟨w.heap.size + 1 + 1, 0, none⟩ = some (.slice va o.length vc) := ((qX hBq).1 _ _ hBz).trans g0
            have g1' : wr.cell? ⟨w.heap.size + 1 + 1, 1, none⟩ = some (.int .i64 (1 + rp)) := ((qX hBq).1 _ _ hBz).trans g1
            have hBz2 : w.heap.size + 1 + 1 < wr.heap.size := Nat.lt_of_lt_of_le hBz hBq.size
            by_cases hlt2 : o2.length < o.length
            · go_wp2_with fail
              refine (gJ o _ _ _ o2.length _ hgq ho8 hlt2 (hR.kinds _ hlt2).2.2 (hR.kinds _ hlt2).1 (hR.kinds _ hlt2).2.1 (hR.first (by omega))).mono ?_
              rintro e w5 ⟨⟨yk, ya, yb, yK, yM⟩, rfl, hfit, hb5⟩
              simp only [Nd.val]
              have t0 := ((qX hb5).1 wq.heap.size 0 (by omega)).trans s0
              have t1 := ((qX hb5).1 wq.heap.size 1 (by omega)).trans s1
              have tf : ∀ k, w5.frozen? ⟨wq.heap.size, k, none⟩ = false := fun k => ((qX hb5).2 wq.heap.size k (by omega)).trans (sf k)
              have hz5 : wq.heap.size < w5.heap.size := by have := hb5.size; omega
              have hz6 : wq.heap.size < w5.heap.size + 1 := by omega
              have hB5q : Bw wq w5 := hBq.trans hb5
              go_wp2_with (at_builtin; (refine cD _ rfl _ _ rfl (wq.alloc (.cells #[.slice none 0 0, .int .i64 (1 + rp)] 24)) _ o2 rfl (hown2.bw (by repeat first|exact br _|assumption|apply bd|apply bn|apply ba|refine bt ?_ (by assumption))) _ _ ⟨yk, ya, yb, yK, yM⟩ rfl (rL (by simp) (by simp) (by simp) (by simp) (by simp)) (by omega) (by simp <;> omega) ?_; intro v6 w6 hown6 hcl6 hfr6 hsz6 hV6; obtain ⟨a6, cc6, e6, _, _⟩ := hown6.form; rw [xT] at e6; subst e6; have f0 : w6.cell? ⟨wq.heap.size, 0, none⟩ = some (.slice va2 o2.length vc2) := (by rw [hcl6 _ _ (by simp <;> omega)]; simp [go_sem, hz5, hz6, t0]); have f1 : w6.cell? ⟨wq.heap.size, 1, none⟩ = some (.int .i64 (1 + rp)) := (by rw [hcl6 _ _ (by simp <;> omega)]; simp [go_sem, hz5, hz6, t1]); have f2 : ∀ k, w6.frozen? ⟨wq.heap.size, k, none⟩ = false := (fun k => by rw [hfr6 _ _ (by simp <;> omega)]; simp [go_sem, hz5, hz6, tf]); clear hcl6 hfr6))
              go_roundw
              case rel => exact ⟨o2 ++ [⟨yk, ya, yb, yK, yM⟩], .slice a6 (o2.length + 1) cc6, by simp, by simp; omega, hF.snoc hfit, hown6.setOther (by simp <;> omega), gG f0, (gF (by omega)).trans f1, fun k => by simp [f2], (hV6 _ (by repeat first|exact br _|assumption|apply bd|apply bn|apply ba|refine bt ?_ (by assumption)) (by simp <;> omega)).setCell (by simp only; omega) _, by have := hsz6; simp at this ⊢ <;> omega⟩
              case measure => simp [intOf]; omega
            · have hll : o2.length = o.length := by omega
              have hk : FitOk o2 (1 + rp) := fit_ok hR hF hll hl1 ho8 (by omega) (by omega)
              have hBr : Bw ((w.alloc (.cells #[.slice ga raw.length gc, .int .i64 r] 24)).alloc (.cells #[.slice none 0 0, .int .i64 0] 24)) wr := hBq0.trans hBq
              have u0 : wr.cell? ⟨w.heap.size + 1, 0, none⟩ = some (.slice none 0 0) := ((qX hBr).1 _ _ (by simp)).trans (by simp)
              have u1 : wr.cell? ⟨w.heap.size + 1, 1, none⟩ = some (.int .i64 0) := ((qX hBr).1 _ _ (by simp)).trans (by simp)
              have uf : ∀ k, wr.frozen? ⟨w.heap.size + 1, k, none⟩ = false := fun k => ((qX hBr).2 _ _ (by simp)).trans (by simp)
              have Hll := qJ hll
              clear hll
              go_wp2_with fail
              refine bodyPost_ret (v := .agg #[.slice va2 o2.length vc2, .int .i64 (1 + rp)]) (by simp [results, Try.results15, go_sem, u0, u1]) rfl ⟨o2, va2, vc2, 1 + rp, rfl, hk, ?_, ?_⟩
              · exact ((hown2.setOther (by simp <;> omega)).setOther (by simp <;> omega)).nodes
              · refine Bw.setCell (Bw.setCell ?_ (by simp only; omega) _) (by simp only; omega) _
                exact (by repeat first|exact br _|assumption|apply bd|apply bn|apply ba|refine bt ?_ (by assumption))
theorem fit_order {o : List Nd} {r : Int} (h : FitOk o r) : ¬ (vW o).length < o.length := by
  intro hlt
  have hf := order_fix hlt
  obtain ⟨k, ⟨hk, hk2⟩, hmin⟩ := least_nat (p := fun k => k < o.length ∧ jF (vW o) k = false) (order_some hlt)
  have hout : Out o (vW o) (k : Int) := ⟨by omega, by omega, hk2⟩
  obtain ⟨ho, ht, h4⟩ := ahead_out h.wf hf hout
  rw [Int.toNat_natCast] at ht h4
  rw [uG] at ht
  obtain ⟨a, e, ha, hc⟩ := h.low k hk h4 _ (hasB_iff.1 ht)
  have h4a := (ahead_out h.wf hf ho).2.2
  rw [e, Int.toNat_natCast] at h4a
  rcases hc with hc | hc
  · exact h4a hc
  · exact hmin a hc ⟨ha, by have := ho.2.2; rw [e] at this; exact this⟩
theorem fit_check {o : List Nd} {r : Int} (h : FitOk o r) : xY o r = 0 := by
  unfold xY; rw [h.wf]; simp [fit_order h]
theorem chain_cut {ns : List Nd} {x y : Nat} {bs : List Nat} : ∀ {ps : List Nat} {n : Int}, Chain ns n (ps ++ y :: bs) x ↔ Chain ns n ps y ∧ y < ns.length ∧ Chain ns (y : Int) bs x := by
  intro ps
  induction ps with
  | nil => intro n; simp only [List.nil_append, Chain]; constructor
           · rintro ⟨h1, h2, h3⟩; exact ⟨h2, h1, h3⟩
           · rintro ⟨h2, h1, h3⟩; exact ⟨h1, h2, h3⟩
  | cons z ps ih => intro n; simp only [List.cons_append, Chain, ih]; constructor
                    · rintro ⟨h1, h2, h3, h4, h5⟩; exact ⟨⟨h1, h2, h3⟩, h4, h5⟩
                    · rintro ⟨⟨h1, h2, h3⟩, h4, h5⟩; exact ⟨h1, h2, h3, h4, h5⟩
theorem mY (ns : List Nd) (ps bs : List Nat) : wN ns (ps ++ bs) = wN ns ps + wN ns bs := by
  induction ps with
  | nil => simp [wN]
  | cons a ps ih => simp only [List.cons_append, wN, ih]; omega
theorem chain_lt {ns : List Nd} {x : Nat} : ∀ {ys : List Nat} {n : Int}, Chain ns n ys x → ∀ y ∈ ys, y < ns.length := by
  intro ys
  induction ys with
  | nil => intro n _ y hy; simp at hy
  | cons z ys ih =>
    rintro n ⟨h1, _, h3⟩ y hy
    simp at hy
    rcases hy with rfl | hy
    · exact h1
    · exact ih h3 y hy
theorem dup_split {ys : List Nat} (h : ¬ ys.Nodup) : ∃ y ps bs cs, ys = ps ++ y :: (bs ++ y :: cs) := by
  induction ys with
  | nil => exact absurd List.nodup_nil h
  | cons z ys ih =>
    by_cases hz : z ∈ ys
    · obtain ⟨bs, cs, rfl⟩ := List.append_of_mem hz
      exact ⟨z, [], bs, cs, rfl⟩
    · obtain ⟨y, ps, bs, cs, rfl⟩ := ih (fun hn => h (List.nodup_cons.2 ⟨hz, hn⟩))
      exact ⟨y, z :: ps, bs, cs, rfl⟩
theorem nodup_leN : ∀ {xs ys : List Nat}, xs.Nodup → (∀ x ∈ xs, x ∈ ys) → xs.length ≤ ys.length := by
  intro xs
  induction xs with
  | nil => intro ys _ _; simp
  | cons x l ih =>
    intro ys hn hs
    have hx : x ∈ ys := hs x (by simp)
    have := ih (ys := ys.erase x) (List.nodup_cons.1 hn).2 (by
      intro y hy
      have hne : y ≠ x := by intro e; subst e; exact (List.nodup_cons.1 hn).1 hy
      exact (List.mem_erase_of_ne hne).2 (hs y (by simp [hy])))
    rw [List.length_erase_of_mem hx] at this
    have hpos : 0 < ys.length := List.length_pos_of_mem hx
    simp; omega
theorem shorten {ns : List Nd} {x : Nat} (hx : x < ns.length) {n : Int} : ∀ (m : Nat) (ys : List Nat), ys.length ≤ m → Chain ns n ys x → ∃ zs, Chain ns n zs x ∧ zs.length + 1 ≤ ns.length ∧ wN ns zs ≤ wN ns ys := by
  intro m
  induction m with
  | zero =>
    intro ys hm hc
    have : ys = [] := List.eq_nil_of_length_eq_zero (by omega)
    subst this
    exact ⟨[], hc, by simp; omega, Int.le_refl _⟩
  | succ m ih =>
    intro ys hm hc
    by_cases hl : ys.length + 1 ≤ ns.length
    · exact ⟨ys, hc, hl, Int.le_refl _⟩
    · by_cases hxy : x ∈ ys
      · obtain ⟨ps, bs, rfl⟩ := List.append_of_mem hxy
        obtain ⟨c1, _, _⟩ := chain_cut.1 hc
        obtain ⟨zs, g1, g2, g3⟩ := ih ps (by simp at hm; omega) c1
        refine ⟨zs, g1, g2, ?_⟩
        rw [mY]
        have := uB ns (x :: bs)
        omega
      · have hnd : ¬ ys.Nodup := by
          intro hn
          have := nodup_leN (xs := x :: ys) (ys := List.range ns.length) (List.nodup_cons.2 ⟨hxy, hn⟩) (by
            intro y hy
            rw [List.mem_range]
            simp at hy
            rcases hy with rfl | hy
            · exact hx
            · exact chain_lt hc y hy)
          simp at this
          omega
        obtain ⟨y, ps, bs, cs, rfl⟩ := dup_split hnd
        obtain ⟨c1, c2, c3⟩ := chain_cut.1 hc
        obtain ⟨_, _, c5⟩ := chain_cut.1 c3
        obtain ⟨zs, g1, g2, g3⟩ := ih (ps ++ y :: cs) (by simp at hm ⊢; omega) (chain_cut.2 ⟨c1, c2, c5⟩)
        refine ⟨zs, g1, g2, Int.le_trans g3 ?_⟩
        rw [mY, mY]
        simp only [wN]
        rw [mY]
        simp only [wN]
        have := uB ns bs
        have := xR ns y
        omega
theorem triangle {ns : List Nd} {k x : Nat} {n : Int} (hk : k < ns.length) (hx : x < ns.length) (h1 : 0 ≤ yS ns k ns.length n) (h2 : 0 ≤ yS ns x ns.length k) :
    0 ≤ yS ns x ns.length n ∧ yS ns x ns.length n ≤ yS ns k ns.length n + uV ns k + yS ns x ns.length k := by
  rcases uW hk ns.length n with ⟨e, _⟩ | ⟨_, ⟨zs, z1, _, z3⟩, _⟩
  · omega
  rcases uW hx ns.length (k : Int) with ⟨e, _⟩ | ⟨_, ⟨ys, y1, _, y3⟩, _⟩
  · omega
  have hc : Chain ns n (zs ++ k :: ys) x := chain_cut.2 ⟨z1, hk, y1⟩
  obtain ⟨us, u1, u2, u3⟩ := shorten hx _ _ (Nat.le_refl _) hc
  rcases uW hx ns.length n with ⟨_, g⟩ | ⟨g0, _, g⟩
  · exact absurd u2 (g us u1)
  · refine ⟨g0, ?_⟩
    have := g us u1 u2
    rw [mY] at u3
    simp only [wN] at u3
    omega
end Go.Proofs.Ytfemleimkbjehaa
