import Derived.Test.YtfemleimkbjehaaGreatJ35
import Derived.Test.YtfemleimkbjehaaGreatJ23
import Derived.Test.YtfemleimkbjehaaGreatJ4
set_option maxRecDepth 1000000
set_option maxHeartbeats 40000000
set_option linter.unusedVariables false
set_option linter.unusedSimpArgs false
namespace Go.Proofs.YtfemleimkbjehaaGreat
open Go.RowKit
theorem Duo.roAt {w a1 b1 a2 : World} {K Sp Sr : Nat → Prop} {lb pb rb : Nat} {xp : PX} {xr : RX} {x : LX} {cnt : Int} {l : LL} {ns : List Nd} {R W : Nat} {st : RSt} {lim : PSt} {k : Nat} (h : Duo w K Sp Sr lb pb rb xp xr x cnt l ns R W st lim k) (h1 : Bw w a1) (hc1 : Chg Sp a1 b1) (h2 : Bw b1 a2) : ROwn a2 Sr rb xr ns R W (zU ns) st := ((h.ro.bw h1).other hc1 fun b hb hs => h.pr b hs hb).bw h2
theorem dgive {w : World} {K Sp Sr : Nat → Prop} {lb pb rb : Nat} {xp : PX} {xr : RX} {x : LX} {cnt : Int} {l : LL} {ns : List Nd} {R W : Nat} {st : RSt} {lim : PSt} {k : Nat} (oa ob oc oh : Int) (h : Duo w K Sp Sr lb pb rb xp xr x cnt l ns R W st lim k) (hko : ∀ n, n < ns.length → vD (qT ns n)) (hv1 : -9223372036854775808 ≤ oc) (hv2 : oc ≤ 9223372036854775807) (hk : k ≤ 200000) :
    Calls Tryz.prog 17 #[.pointer (some ⟨lb, 0, none⟩), .agg #[.int .i64 1, .int .i64 oa, .int .i64 ob, .int .i64 oc, .int .i64 oh]] w fun e w' => e = .returned (.bool true) ∧ Duo.After w w' (uni K Sp Sr) lb ns R W (k + 1) := by
  have hsm := h.po.small
  have hi := h.inv
  have hop := hi.op
  have hlg := hi.lg
  have hml := hi.ml
  have hPI := h.lm.pinv hi hsm.1 hsm.2.1
  refine (lgive_any (Sp := Sp) (Sr := Sr) (Pp := fun a b => ∃ Sp' xp' p', POwn b Sp' pb xp' ns R W (zU ns) p' ∧ Sim ns W p' (xG ns W st oa ob oc) ∧ ∀ c, Sp' c → Sp c ∨ a.heap.size ≤ c) (Pr := fun a b => ∃ Sr' xr', ROwn b Sr' rb xr' ns R W (zU ns) (xG ns W st oa ob oc) ∧ ∀ c, Sr' c → Sr c ∨ a.heap.size ≤ c) 0 oa ob oc oh (giveE ns W st.opened oa ob) w h.lw (fun hs => h.kp lb h.lw.kroot hs) h.po.slt (fun w' hb => ?_) (fun a1 b1 w' h1 hc1 _ h2 => ?_) h.ro.slt (fun hs => h.kr lb h.lw.kroot hs)).mono ?_
  · refine (pgive_any oa ob oc w' (h.po.bw hb) (fun n hn h6 => (hko n hn).2.1 h6) (fun a b => by have := (hPI.few a b).1; omega) (fun a b => by have := (hPI.few a b).2.2; omega) hPI.ep hPI.gv).mono ?_
    rintro e w'' ⟨rfl, S', x', hP, hC, hS⟩
    exact ⟨by rw [pgiveE_eq h.lm], hC, S', x', _, hP, h.lm.gave hi oa ob oc, hS⟩
  · refine (rgive_any oa ob oc w' (h.roAt h1 hc1 h2) (by omega) (by omega) (by omega) (fun n hn h6 => (hko n hn).2.1 h6)).mono ?_
    rintro e w'' ⟨rfl, S', x', hR, hC, hS⟩
    exact ⟨rfl, hC, S', x', hR, hS⟩
  · rintro e w' ⟨rfl, a1, b1, a2, h1, hc1, hp, h2, hc2, hr⟩
    exact ⟨rfl, h.both h1 hc1 hp h2 hc2 hr (hi.gave h.lm hsm.1 hsm.2.2.2.2.1 oa ob oc hv1 hv2)⟩
theorem dadvance {w : World} {K Sp Sr : Nat → Prop} {lb pb rb : Nat} {xp : PX} {xr : RX} {x : LX} {cnt : Int} {l : LL} {ns : List Nd} {R W : Nat} {st : RSt} {lim : PSt} {k : Nat} (oa ob oc oh : Int) (h : Duo w K Sp Sr lb pb rb xp xr x cnt l ns R W st lim k) (hk : k ≤ 200000) :
    Calls Tryz.prog 17 #[.pointer (some ⟨lb, 0, none⟩), .agg #[.int .i64 2, .int .i64 oa, .int .i64 ob, .int .i64 oc, .int .i64 oh]] w fun e w' => e = .returned (.bool true) ∧ Duo.After w w' (uni K Sp Sr) lb ns R W (k + 1) := by
  have hsm := h.po.small
  have hi := h.inv
  have hop := hi.op
  have hlg := hi.lg
  have hml := hi.ml
  have hPI := h.lm.pinv hi hsm.1 hsm.2.1
  refine (ladvance_any (Sp := Sp) (Sr := Sr) (Pp := fun a b => ∃ Sp' xp' p', POwn b Sp' pb xp' ns R W (zU ns) p' ∧ Sim ns W p' (advS ns W st oa ob) ∧ ∀ c, Sp' c → Sp c ∨ a.heap.size ≤ c) (Pr := fun a b => ∃ Sr' xr', ROwn b Sr' rb xr' ns R W (zU ns) (advS ns W st oa ob) ∧ ∀ c, Sr' c → Sr c ∨ a.heap.size ≤ c) 0 oa ob oc oh (advE ns W st.opened oa ob) w h.lw (fun hs => h.kp lb h.lw.kroot hs) h.po.slt (fun w' hb => ?_) (fun a1 b1 w' h1 hc1 _ h2 => ?_) h.ro.slt (fun hs => h.kr lb h.lw.kroot hs)).mono ?_
  · refine (padvance_any oa ob w' (h.po.bw hb) (fun a b => by have := (hPI.few a b).2.2; omega) hPI.ep).mono ?_
    rintro e w'' ⟨rfl, S', x', hP, hC, hS⟩
    exact ⟨by rw [padvE_eq h.lm], hC, S', x', _, hP, h.lm.advanced hi oa ob, hS⟩
  · refine (radvance_any oa ob w' (h.roAt h1 hc1 h2) (by omega) (by omega)).mono ?_
    rintro e w'' ⟨rfl, S', x', hR, hC, hS⟩
    exact ⟨rfl, hC, S', x', hR, hS⟩
  · rintro e w' ⟨rfl, a1, b1, a2, h1, hc1, hp, h2, hc2, hr⟩
    exact ⟨rfl, h.both h1 hc1 hp h2 hc2 hr (hi.advanced h.lm hsm.2.2.2.2.1 oa ob)⟩
theorem dclose {w : World} {K Sp Sr : Nat → Prop} {lb pb rb : Nat} {xp : PX} {xr : RX} {x : LX} {cnt : Int} {l : LL} {ns : List Nd} {R W : Nat} {st : RSt} {lim : PSt} {k : Nat} (oa ob oc oh : Int) (h : Duo w K Sp Sr lb pb rb xp xr x cnt l ns R W st lim k) (hk : k ≤ 200000) :
    Calls Tryz.prog 17 #[.pointer (some ⟨lb, 0, none⟩), .agg #[.int .i64 3, .int .i64 oa, .int .i64 ob, .int .i64 oc, .int .i64 oh]] w fun e w' => e = .returned (.bool true) ∧ Duo.After w w' (uni K Sp Sr) lb ns R W (k + 1) := by
  have hsm := h.po.small
  have hi := h.inv
  have hop := hi.op
  have hlg := hi.lg
  have hml := hi.ml
  have hPI := h.lm.pinv hi hsm.1 hsm.2.1
  refine (lclose_any (Sp := Sp) (Sr := Sr) (Pp := fun a b => ∃ Sp' xp' p', POwn b Sp' pb xp' ns R W (zU ns) p' ∧ Sim ns W p' (clsS ns W st oa ob) ∧ ∀ c, Sp' c → Sp c ∨ a.heap.size ≤ c) (Pr := fun a b => ∃ Sr' xr', ROwn b Sr' rb xr' ns R W (zU ns) (clsS ns W st oa ob) ∧ ∀ c, Sr' c → Sr c ∨ a.heap.size ≤ c) 0 oa ob oc oh (kS ns W st.opened oa ob) w h.lw (fun hs => h.kp lb h.lw.kroot hs) h.po.slt (fun w' hb => ?_) (fun a1 b1 w' h1 hc1 _ h2 => ?_) h.ro.slt (fun hs => h.kr lb h.lw.kroot hs)).mono ?_
  · refine (pclose_any oa ob w' (h.po.bw hb) (fun a b => by have := (hPI.few a b).2.2; omega) hPI.ep).mono ?_
    rintro e w'' ⟨rfl, S', x', hP, hC, hS⟩
    exact ⟨by rw [psrcE_eq h.lm], hC, S', x', _, hP, h.lm.closed hi oa ob, hS⟩
  · refine (rclose_any oa ob w' (h.roAt h1 hc1 h2) (by omega) (by omega)).mono ?_
    rintro e w'' ⟨rfl, S', x', hR, hC, hS⟩
    exact ⟨rfl, hC, S', x', hR, hS⟩
  · rintro e w' ⟨rfl, a1, b1, a2, h1, hc1, hp, h2, hc2, hr⟩
    exact ⟨rfl, h.both h1 hc1 hp h2 hc2 hr (hi.closed h.lm hsm.2.2.2.2.1 oa ob)⟩
theorem Tryz.infoSent : (Tryz.prog.info? 60).map (fun i => (i.zero, i.size, i.bytes)) = some (some (.agg #[.slice none 0 0, .int .i64 0]), 2, 32) := by kernel_rfl
theorem gv_at {w : World} {base : Nat} {ty : TypeId} {v : Value} {A : List Gv} (h : w.ownsRow base ty 3 v A.length (qH A)) {k : Nat} (hk : k < A.length) : ∃ g, kY v = some ⟨g, 0, none⟩ ∧ g < w.heap.size ∧ w.cell? ⟨g, k * 3, none⟩ = some (.int .i64 (vR A k).node) ∧ w.cell? ⟨g, k * 3 + 1, none⟩ = some (.int .i64 (vR A k).epoch) ∧ w.cell? ⟨g, k * 3 + 2, none⟩ = some (.int .i64 (vR A k).value) := by
  obtain ⟨g, e, hl, hc⟩ := qB h (by omega)
  have q : ∀ f, f < 3 → ∀ u, (Gv.cells (vR A k))[f]? = some u → w.cell? ⟨g, k * 3 + f, none⟩ = some u := fun f hf u hu => hc _ _ ((vL (f := Gv.cells) (d := ⟨0, 0, 0⟩) (fun _ => rfl) A k hk f hf).trans hu)
  exact ⟨g, e, hl, q 0 (by omega) _ rfl, q 1 (by omega) _ rfl, q 2 (by omega) _ rfl⟩
theorem yZ {w : World} {fb k b : Nat} {arr arr' : Array Value} {t t' : TypeId} {fr : Nat × Nat} {u : Value} (h : w.heap[fb]? = some (.cells arr t (0, 0))) (hb : w.heap[b]? = some (.cells arr' t' fr)) (hne : t' ≠ t) : (w.setCell ⟨fb, k, none⟩ u).heap[b]? = some (.cells arr' t' fr) := by
  refine (Below.heap_setCell w ⟨fb, k, none⟩ u b (fun e => ?_)).trans hb
  simp only at e
  subst e
  rw [h] at hb
  simp only [Option.some.injEq, Obj.cells.injEq] at hb
  exact hne hb.2.1.symm
theorem ovM_set {n : Int} {k : Nat} {ys : List Value} (hk : k * 3 + 3 ≤ ys.length) : (((ovL xM n 3 ys k).set (k * 3) (.int .i64 (-77))).set (k * 3 + 1) (.int .i64 n)).set (k * 3 + 2) (.int .i64 0) = ovL xM n 3 ys (k + 1) := by
  have hX : (xM n).length = 3 := rfl
  have hfl : ∀ j, (jW xM n j).length = j * 3 := fun j => by simp [jW, xM]
  have hlen : (ovL xM n 3 ys k).length = ys.length := by unfold ovL; rw [List.length_append, List.length_drop, hfl]; omega
  apply List.ext_getElem?
  intro p
  rw [yG hX]
  by_cases h1 : p < k * 3
  · rw [List.getElem?_set_ne (by omega), List.getElem?_set_ne (by omega), List.getElem?_set_ne (by omega), yG hX, if_pos h1, if_pos (by omega), jL, List.getElem?_append_left (by rw [hfl]; exact h1)]
  · by_cases h2 : p < (k + 1) * 3
    · rw [if_pos h2, jL, List.getElem?_append_right (by rw [hfl]; omega), hfl]
      have : p = k * 3 ∨ p = k * 3 + 1 ∨ p = k * 3 + 2 := by omega
      rcases this with rfl | rfl | rfl
      · rw [List.getElem?_set_ne (by omega), List.getElem?_set_ne (by omega), List.getElem?_set_self (by omega)]; simp [xM]
      · rw [List.getElem?_set_ne (by omega), List.getElem?_set_self (by simp; omega)]; simp [xM, show k * 3 + 1 - k * 3 = 1 by omega]
      · rw [List.getElem?_set_self (by simp; omega)]; simp [xM, show k * 3 + 2 - k * 3 = 2 by omega]
    · rw [if_neg h2, List.getElem?_set_ne (by omega), List.getElem?_set_ne (by omega), List.getElem?_set_ne (by omega), yG hX, if_neg h1]
theorem lwaiting_any {K : Nat → Prop} {lb pb rb : Nat} {x : LX} {cnt : Int} {l : LL} (ok oa ob oc oh : Int) (A : List Gv) (E : Int) (w : World) (hL : LW w K lb pb rb x cnt l)
    (hp : ∀ w', Bw w w' → Calls Tryz.prog 34 #[.pointer (some ⟨pb, 0, none⟩), .int .i64 oa, .int .i64 ob] w' fun e w'' => ∃ v, e = .returned (.tuple #[v, .int .i64 E]) ∧ OwnG 62 w' w'' v A ∧ Bw w' w'')
    (hr : ∀ w', Bw w w' → Calls Tryz.prog 35 #[.pointer (some ⟨rb, 0, none⟩), .int .i64 oa, .int .i64 ob] w' fun e w'' => ∃ v, e = .returned (.tuple #[v, .int .i64 E]) ∧ OwnG 62 w' w'' v A ∧ Bw w' w'')
    (hA : A.length ≤ 100000000) (hlm : l.m.length + 4 ≤ 900000000) (hcn : 0 ≤ cnt ∧ cnt ≤ 1000000000000) :
    Calls Tryz.prog 18 #[.pointer (some ⟨lb, 0, none⟩), .agg #[.int .i64 ok, .int .i64 oa, .int .i64 ob, .int .i64 oc, .int .i64 oh]] w fun e w' => e = .returned (.bool true) ∧ ∃ x' m', LW w' (fun b => K b ∨ (w.heap.size ≤ b ∧ b < w'.heap.size)) lb pb rb x' (cnt + 1) { l with m := m' } ∧ m'.length = l.m.length + 4 ∧ Chg K w w' := by
  have HL := qJ hL
  have Hp := qJ hp
  have Hr := qJ hr
  have klt := hL.klt
  have c0 := qQ (o := 0) hL.root rfl
  have c1 := qQ (o := 1) hL.root rfl
  have cl := (Array.getElem?_eq_some_iff.1 hL.root).1
  clear hL hp hr
  go_enter Tryz.func18, Tryz.ntmps18
  go_wp2_with fail
  obtain ⟨w0, hw0⟩ : ∃ w0, w.alloc (.cells #[.int .i64 ok, .int .i64 oa, .int .i64 ob, .int .i64 oc, .int .i64 oh] 31) = w0 := ⟨_, rfl⟩
  have hB0 : Bw w w0 := by rw [← hw0]; exact (by repeat first|exact br _|assumption|apply bd|apply bn|apply ba|refine bt ?_ (by assumption))
  have ho0 : w0.heap[w.heap.size]? = some (.cells #[.int .i64 ok, .int .i64 oa, .int .i64 ob, .int .i64 oc, .int .i64 oh] 31 (0, 0)) := by rw [← hw0]; exact heap_alloc_new w _
  rw [hw0]
  clear hw0
  obtain ⟨pq, hpq⟩ : ∃ pq, w.heap.size = pq := ⟨_, rfl⟩
  rw [hpq] at ho0
  rw [hpq]
  have Hcs := qJ (fun (w' : World) (h : Bw w0 w') => (⟨((qS (hB0.trans h)).1 _ 0 cl).trans c0, ((qS (hB0.trans h)).1 _ 1 cl).trans c1, qQ (o := 1) ((Below.block h _ (Array.getElem?_eq_some_iff.1 ho0).1).trans ho0) rfl, qQ (o := 2) ((Below.block h _ (Array.getElem?_eq_some_iff.1 ho0).1).trans ho0) rfl⟩ : w'.cell? ⟨lb, 0, none⟩ = some (.pointer (some ⟨pb, 0, none⟩)) ∧ w'.cell? ⟨lb, 1, none⟩ = some (.pointer (some ⟨rb, 0, none⟩)) ∧ w'.cell? ⟨pq, 1, none⟩ = some (.int .i64 oa) ∧ w'.cell? ⟨pq, 2, none⟩ = some (.int .i64 ob)))
  obtain ⟨s0, s1, s2, s3⟩ := (qK Hcs) w0 (Bw.refl _)
  clear c0 c1
  go_region_held3 (fun w' => w'.cell? ⟨lb, 0, none⟩ = some (.pointer (some ⟨pb, 0, none⟩)) ∧ w'.cell? ⟨lb, 1, none⟩ = some (.pointer (some ⟨rb, 0, none⟩)) ∧ w'.cell? ⟨pq, 1, none⟩ = some (.int .i64 oa) ∧ w'.cell? ⟨pq, 2, none⟩ = some (.int .i64 ob)) (first | go_keep | exact (qK Hcs) _ (by repeat first|exact br _|assumption|apply bd|apply bn|apply ba|refine bt ?_ (by assumption))) ((go_at_call 34; refine ((qK Hp) _ (hB0.trans (by repeat first|exact br _|assumption|apply bd|apply bn|apply ba|refine bt ?_ (by assumption)))).mono ?_; rintro e1 w1 ⟨v, rfl, hov, hb1⟩; obtain ⟨va, vc, hve⟩ : ∃ va vc, v = .slice va A.length vc := ⟨_, _, qV hov⟩; subst hve))
  have hB1 : Bw w0 w1 := (by repeat first|exact br _|assumption|apply bd|apply bn|apply ba|refine bt ?_ (by assumption))
  obtain ⟨t0, t1, t2, t3⟩ := (qK Hcs) w1 hB1
  clear s0 s1 s2 s3
  go_wp2_with fail
  go_region_held3 (fun w' => w'.cell? ⟨lb, 0, none⟩ = some (.pointer (some ⟨pb, 0, none⟩)) ∧ w'.cell? ⟨lb, 1, none⟩ = some (.pointer (some ⟨rb, 0, none⟩)) ∧ w'.cell? ⟨pq, 1, none⟩ = some (.int .i64 oa) ∧ w'.cell? ⟨pq, 2, none⟩ = some (.int .i64 ob)) (first | go_keep | exact (qK Hcs) _ (hB1.trans (by repeat first|exact br _|assumption|apply bd|apply bn|apply ba|refine bt ?_ (by assumption)))) ((go_at_call 35; refine ((qK Hr) _ (hB0.trans (hB1.trans (by repeat first|exact br _|assumption|apply bd|apply bn|apply ba|refine bt ?_ (by assumption))))).mono ?_; rintro e2 w2 ⟨u, rfl, hou, hb2⟩; obtain ⟨ua, uc, hue⟩ : ∃ ua uc, u = .slice ua A.length uc := ⟨_, _, qV hou⟩; subst hue))
  have hB2 : Bw w1 w2 := (by repeat first|exact br _|assumption|apply bd|apply bn|apply ba|refine bt ?_ (by assumption))
  clear t0 t1 t2 t3
  go_wp2_with fail
  have hov2 := hov.bw hB2
  go_loopw [9, 10] (fun okv i wr => ∃ k : Nat, k ≤ A.length ∧ i = .int .i64 k ∧ okv = .bool true ∧ Bw w2 wr) (fun _ i _ => A.length - (intOf i).toNat)
  case atStart => exact ⟨0, Nat.zero_le _, rfl, rfl, Bw.refl _⟩
  case round =>
    obtain ⟨k, hk, rfl, rfl, hB3⟩ := hrel
    rename World => w3
    by_cases hlt : k < A.length
    · obtain ⟨g, eg, hgl, z0, z1, z2⟩ := gv_at (hov2.bw hB3) hlt
      obtain ⟨g2, eg2, hgl2, y0, y1, y2⟩ := gv_at (hou.bw hB3) hlt
      simp only [kY] at eg eg2
      subst eg eg2
      have hk1 : (k : Int) < (A.length : Int) := by omega
      generalize vR A k = y at *
      go_wp2_with fail
      go_quiet (fail)
      go_wp2_with fail
      go_roundw
      case rel => exact ⟨k + 1, by omega, by go_num, by simp, (by repeat first|exact br _|assumption|apply bd|apply bn|apply ba|refine bt ?_ (by assumption))⟩
      case measure => simp [intOf]; omega
    · have hkk : k = A.length := by omega
      subst hkk
      have hB03 : Bw w w3 := hB0.trans (hB1.trans (hB2.trans hB3))
      have hL3 := (qK HL).bw hB03
      have r2 := qQ (o := 2) hL3.root rfl
      have r2f := qZ (o := 2) hL3.root
      have r2l := (Array.getElem?_eq_some_iff.1 hL3.root).1
      have HL4 := qJ (hL3.setCnt (c := cnt + 1))
      have hov3 : OwnG 62 w w3 (.slice va A.length vc) A := (hov2.bw hB3).weaken (hB0.trans (by repeat first|exact br _|assumption|apply bd|apply bn|apply ba|refine bt ?_ (by assumption)))
      have hov4 := vX hov3 hL3.root (qP w3 lb 2 (.int .i64 (cnt + 1))) (by decide)
      clear hL3 hou hov hov2
      go_wp2_with fail
      have hz03 := hB03.size
      obtain ⟨w5, hw5⟩ : ∃ w5, (w3.setCell ⟨lb, 2, none⟩ (.int .i64 (cnt + 1))).alloc (.cells #[.int .i64 (-77), .int .i64 (cnt + 1), .int .i64 0] 62) = w5 := ⟨_, rfl⟩
      have hszs : (w3.setCell ⟨lb, 2, none⟩ (.int .i64 (cnt + 1))).heap.size = w3.heap.size := by simp
      have hb5 : Bw (w3.setCell ⟨lb, 2, none⟩ (.int .i64 (cnt + 1))) w5 := by rw [← hw5]; exact (by repeat first|exact br _|assumption|apply bd|apply bn|apply ba|refine bt ?_ (by assumption))
      have hx5 : w5.heap[w3.heap.size]? = some (.cells #[.int .i64 (-77), .int .i64 (cnt + 1), .int .i64 0] 62 (0, 0)) := by rw [← hw5, ← hszs]; exact heap_alloc_new _ _
      have hL5 := (qK HL4).bw hb5
      have hov5 := qX hov4 fun g hg => Below.block hb5 g hg
      have hC5 : Chg K w w5 := ((Chg.bw (S := K) hB03).trans (qP w3 lb 2 (.int .i64 (cnt + 1))) (fun b h => .inl (h ▸ (qK HL).kroot))).trans (Chg.bw (S := K) hb5) (fun _ h => .inl h)
      have hgx : ∀ b, (Value.slice va A.length vc).ownBlock = some b → w.heap.size ≤ b ∧ b < w3.heap.size := fun b hb => World.ownsRow.lt hov3 b hb
      rw [hw5]
      obtain ⟨xb, hxb⟩ : ∃ xb, w3.heap.size = xb := ⟨_, rfl⟩
      rw [hxb] at hx5 hgx hz03
      rw [hxb]
      obtain ⟨nn, hnn⟩ : ∃ nn, cnt + 1 = nn := ⟨_, rfl⟩
      have hnb : 0 ≤ nn ∧ nn ≤ 1000000000001 := by omega
      rw [hnn] at hx5 hL5
      rw [hnn]
      have Hnn := qJ hnn
      clear hw5 hxb hnn hov4 hov3 HL4 hb5 hszs r2 r2f r2l hB3 hB2 hB1
      have hgl3 := yY A
      go_loopw [12] (fun i wr => ∃ k : Nat, k ≤ A.length ∧ i = .int .i64 k ∧ LW wr K lb pb rb x nn l ∧ wr.ownsRow w.heap.size 62 3 (.slice va A.length vc) A.length (ovL xM nn 3 (qH A) k) ∧ wr.heap[xb]? = some (.cells #[.int .i64 (-77), .int .i64 nn, .int .i64 0] 62 (0, 0)) ∧ Chg K w wr) (fun i _ => A.length - (intOf i).toNat)
      case atStart => exact ⟨0, Nat.zero_le _, rfl, hL5, by rw [ovL_zero]; exact hov5, hx5, hC5⟩
      case round =>
        clear hL5 hov5 hx5 hC5
        obtain ⟨k, hk, rfl, hLr, hor, hxr, hCr⟩ := hrel
        rename World => wr
        have x0 := qQ (o := 0) hxr rfl
        have x1 := qQ (o := 1) hxr rfl
        have x2 := qQ (o := 2) hxr rfl
        have xl := (Array.getElem?_eq_some_iff.1 hxr).1
        by_cases hlt : k < A.length
        · obtain ⟨g, eg, hgl, hcc⟩ := qB hor (by omega)
          simp only [kY] at eg
          subst eg
          obtain ⟨hg1, hg2⟩ := hgx g rfl
          have hol : (ovL xM nn 3 (qH A) k).length = A.length * 3 := by
            unfold ovL; rw [List.length_append, List.length_drop, hgl3]; simp [jW, xM]; omega
          have ex : ∀ q, q < A.length * 3 → ∃ u, wr.cell? ⟨g, q, none⟩ = some u := fun q hq => ⟨_, hcc q _ (List.getElem?_eq_getElem (by omega))⟩
          obtain ⟨u0, z0⟩ := ex (k * 3) (by omega)
          obtain ⟨u1, z1⟩ := ex (k * 3 + 1) (by omega)
          obtain ⟨u2, z2⟩ := ex (k * 3 + 2) (by omega)
          obtain ⟨cur, hcur⟩ := jZ hor (b := g) rfl
          have zf := fun q => qZ (o := q) hcur
          have hk1 : (k : Int) < (A.length : Int) := by omega
          have hgx2 : ¬ xb = g := by omega
          have hnK : ∀ b, K b → ¬ b = g := fun b hb e => by have := klt b hb; omega
          have Hrest := qJ (⟨hLr, hor, hxr, hCr⟩ : LW wr K lb pb rb x nn l ∧ wr.ownsRow w.heap.size 62 3 (.slice (some ⟨g, 0, none⟩) A.length vc) A.length (ovL xM nn 3 (qH A) k) ∧ wr.heap[xb]? = some (.cells #[.int .i64 (-77), .int .i64 nn, .int .i64 0] 62 (0, 0)) ∧ Chg K w wr)
          clear hLr hor hxr hCr hcc hcur ex
          go_wp2_with fail
          go_roundw
          case rel =>
            obtain ⟨hLr, hor, hxr, hCr⟩ := qK Hrest
            have hc3 : Chg (fun b => b = g) wr (((wr.setCell ⟨g, k * 3, none⟩ (.int .i64 (-77))).setCell ⟨g, k * 3 + 1, none⟩ (.int .i64 nn)).setCell ⟨g, k * 3 + 2, none⟩ (.int .i64 0)) := ((qP _ _ _ _).trans (qP _ _ _ _) (fun _ h => .inl h)).trans (qP _ _ _ _) (fun _ h => .inl h)
            refine ⟨k + 1, by omega, by go_num, hLr.other hc3 hnK, ?_, (hc3.block xb xl hgx2).trans hxr, hCr.trans hc3 (fun b h => .inr (h ▸ hg1))⟩
            rw [← ovM_set (by omega)]
            exact kP (kP (kP hor (by omega)) (by simp; omega)) (by simp; omega)
          case measure => simp [intOf]; omega
        · have hkk : k = A.length := by omega
          subst hkk
          rw [ovL_all (by omega)] at hor
          obtain ⟨ma, mc, hme⟩ : ∃ ma mc, x.m = .slice ma l.m.length mc := ⟨_, _, qV hLr.m.1⟩
          have hroot := hLr.root
          rw [hme] at hroot
          have r3 := qQ (o := 3) hroot rfl
          have r2 := qQ (o := 2) hroot rfl
          have rl := (Array.getElem?_eq_some_iff.1 hroot).1
          have Hfam := qJ (fun i (hi : i < l.m.length) => (.inr fun b hb => (hLr.km i hi).1.2 b hb : (kV l.m i).len ≤ A.length ∨ ∀ b, (Value.slice (kV l.m i).a (kV l.m i).len (kV l.m i).cap).ownBlock = some b → K b))
          have HL0 := qJ (hLr.to0 w.heap.size)
          have Hor := qJ hor
          have Hxr := qJ hxr
          have Hme := qJ hme
          have hzr := hCr.size
          clear hLr hor hxr hroot hme x0 x1 x2
          go_wp2_with fail
          go_region_law (refine yT rfl _ _ _ 60 rfl _ 2 32 Tryz.infoSent Tryz.underlying37 rfl (by decide) 0 (.slice ma l.m.length mc) l.m.length (kC l.m) rfl (qX ((qK Hme) ▸ (qK HL0).m.1) fun g hg => Below.block (show Bw wr _ from (by repeat first|exact br _|assumption|apply bd|apply bn|apply ba|refine bt ?_ (by assumption))) g hg) _ _ (Ent.cells ⟨va, A.length, vc, nn⟩) rfl rfl (xD (qQ (qY _ _ (by simp)) rfl) (qQ (qY _ _ (by simp)) rfl)) (one2 _) (by omega) (by omega) (Nat.zero_le _) ?_; intro g' cap w7 ho7 hg7 hl7; have Hadd := qJ ((qK HL0).addM (e := ⟨va, A.length, vc, nn⟩) ⟨qM (qK Hor) (Nat.zero_le _), fun b hb => .inr (hgx b hb).1⟩ (by simp only; omega) ho7 ((qK Hme).symm ▸ hg7) (by rcases hl7 with h | h; exact (qK HL0).m.2 _ (by rw [qK Hme]; exact h); exact .inr (by rw [h]; exact Nat.le_trans hzr (Bw.size (show Bw wr _ from (by repeat first|exact br _|assumption|apply bd|apply bn|apply ba|refine bt ?_ (by assumption)))))) (show Bw wr _ from (by repeat first|exact br _|assumption|apply bd|apply bn|apply ba|refine bt ?_ (by assumption)))); have q3 := qQ (o := 3) (qK Hadd).1 rfl; have q3f := qZ (o := 3) (qK Hadd).1; have q3l := (Array.getElem?_eq_some_iff.1 (qK Hadd).1).1)
          all_goals (
            obtain ⟨_, hL8⟩ := qK Hadd
            have hw7 := (qK Hadd).1
            have hbY : Bw wr (wr.alloc (.cells #[.slice va A.length vc, .int .i64 nn] 60)).drew := (by repeat first|exact br _|assumption|apply bd|apply bn|apply ba|refine bt ?_ (by assumption))
            have hm7 := qX ((qK Hme) ▸ (qK HL0).m.1) fun g hg => Below.block hbY g hg
            have hor8 := qN (k := 3) (u := .slice (some ⟨g', 0, none⟩) (l.m.length + 1) cap) hw7 (kQ hm7 hg7 (qX (qK Hor) fun g hg => Below.block hbY g hg) (by decide)) (by decide)
            have hxr8 := yZ (k := 3) (u := .slice (some ⟨g', 0, none⟩) (l.m.length + 1) cap) hw7 (qW hm7 hg7 ((Below.block hbY _ xl).trans (qK Hxr)) (.inl (by decide))) (by decide)
            have hC8 : Chg K w (w7.setCell ⟨lb, 3, none⟩ (.slice (some ⟨g', 0, none⟩) (l.m.length + 1) cap)) := by
              have k1 : Chg K w (wr.alloc (.cells #[.slice va A.length vc, .int .i64 nn] 60)).drew := hCr.trans (Chg.bw (S := K) hbY) (fun _ h => .inl h)
              have k2 : Chg (fun b => (Value.slice ma l.m.length mc).ownBlock = some b) (wr.alloc (.cells #[.slice va A.length vc, .int .i64 nn] 60)).drew w7 := ⟨hg7.os, hg7.tape, hg7.output, hg7.size, fun i hi hn => hg7.block i hi (fun e => hn e.symm)⟩
              exact (k1.trans k2 (fun b hb => (qK HL0).m.2 b (by rw [qK Hme]; exact hb))).trans (qP _ _ _ _) (fun b h => (qK HL0).kroot.imp (fun hk => h ▸ hk) (fun hk => h ▸ hk))
            obtain ⟨w8, hw8⟩ : ∃ w8, w7.setCell ⟨lb, 3, none⟩ (.slice (some ⟨g', 0, none⟩) (l.m.length + 1) cap) = w8 := ⟨_, rfl⟩
            rw [hw8] at hL8 hor8 hxr8 hC8
            simp only [hw8]
            clear hw8 hw7 hm7 Hadd q3 q3f q3l ho7 hg7 hl7 hbY
            have Hfam8 := qJ (fam_snoc (e := ⟨va, A.length, vc, nn⟩) (qK Hfam) (Nat.le_refl _))
            go_wp2_with fail
            go_loopw [13, 14] (fun gv i wr => ∃ (j : Nat) (ga : Option Addr) (gc : Nat) (x' : LX) (m' : List Ent), j ≤ 3 ∧ i = .int .i64 j ∧ gv = .slice ga (A.length + j) gc ∧ LW0 wr (fun b => K b ∨ w.heap.size ≤ b) lb pb rb x' nn { l with m := m' } ∧ m'.length = l.m.length + 1 + j ∧ wr.ownsRow w.heap.size 62 3 (.slice ga (A.length + j) gc) (A.length + j) (jW xM nn (A.length + j)) ∧ wr.heap[xb]? = some (.cells #[.int .i64 (-77), .int .i64 nn, .int .i64 0] 62 (0, 0)) ∧ Chg K w wr ∧ (∀ b, (Value.slice ga (A.length + j) gc).ownBlock = some b → b ≠ xb) ∧ ∀ i, i < m'.length → (kV m' i).len ≤ A.length + j ∨ ∀ b, (Value.slice (kV m' i).a (kV m' i).len (kV m' i).cap).ownBlock = some b → K b) (fun _ i _ => 3 - (intOf i).toNat)
            case atStart => exact ⟨0, va, vc, _, _, by omega, rfl, rfl, hL8, by simp, hor8, hxr8, hC8, fun b hb => by have := hgx b hb; omega, qK Hfam8⟩
            case round =>
              clear hL8 hor8 hxr8 hC8 Hfam8
              obtain ⟨j, ga, gc, x', m', hj, rfl, rfl, hLr, hml, hor, hxr, hCr, hnx, hfam⟩ := hrel
              rename World => wr
              have Hml := qJ hml
              have hmle : m'.length ≤ 900000000 := by omega
              clear hml
              have x0 := qQ (o := 0) hxr rfl
              have x1 := qQ (o := 1) hxr rfl
              have x2 := qQ (o := 2) hxr rfl
              have xl := (Array.getElem?_eq_some_iff.1 hxr).1
              have hzr := hCr.size
              obtain ⟨ma, mc, hme⟩ : ∃ ma mc, x'.m = .slice ma m'.length mc := ⟨_, _, qV hLr.m.1⟩
              by_cases hlt : j < 3
              · have hj1 : decide ((j : Int) < 3) = true := by simp; omega
                have hnK : ∀ b, (Value.slice ga (A.length + j) gc).ownBlock = some b → ¬ K b := fun b hb hk => by have h1 := klt b hk; have h2 := (World.ownsRow.lt hor b hb).1; omega
                have Hm := qJ (⟨hLr, hor, hxr, hCr, hfam⟩ : LW0 wr (fun b => K b ∨ w.heap.size ≤ b) lb pb rb x' nn { l with m := m' } ∧ wr.ownsRow w.heap.size 62 3 (.slice ga (A.length + j) gc) (A.length + j) (jW xM nn (A.length + j)) ∧ wr.heap[xb]? = some (.cells #[.int .i64 (-77), .int .i64 nn, .int .i64 0] 62 (0, 0)) ∧ Chg K w wr ∧ ∀ i, i < m'.length → (kV m' i).len ≤ A.length + j ∨ ∀ b, (Value.slice (kV m' i).a (kV m' i).len (kV m' i).cap).ownBlock = some b → K b)
                have Hme := qJ hme
                clear hLr hor hxr hCr hfam hme
                go_wp2_with (at_builtin; refine appK _ rfl _ _ _ 62 rfl _ 3 24 Tryz.infoMessage Tryz.underlying58 rfl (by decide) w.heap.size (.slice ga (A.length + j) gc) (A.length + j) (jW xM nn (A.length + j)) rfl (qX (qK Hm).2.1 fun g hg => Below.block (show Bw wr _ from (by repeat first|exact br _|assumption|apply bd|apply bn|apply ba|refine bt ?_ (by assumption))) g hg) _ _ (Gv.cells ⟨-77, nn, 0⟩) rfl rfl (gv_cells (qQ (qY _ _ (by simp)) rfl) (qQ (qY _ _ (by simp)) rfl) (qQ (qY _ _ (by simp)) rfl)) (gv_one _) (by omega) (by omega) (Nat.le_trans hzr (Bw.size (show Bw wr _ from (by repeat first|exact br _|assumption|apply bd|apply bn|apply ba|refine bt ?_ (by assumption))))) ?_; intro g9 cap9 w9 ho9 hg9 hl9 hk9)
                obtain ⟨hLr, hor, hxr, hCr, hfam⟩ := qK Hm
                obtain ⟨wY, hwY, hbY⟩ : ∃ wY, wY = wr.alloc (.cells #[.int .i64 (-77), .int .i64 nn, .int .i64 0] 62) ∧ Bw wr wY := ⟨_, rfl, (by repeat first|exact br _|assumption|apply bd|apply bn|apply ba|refine bt ?_ (by assumption))⟩
                rw [← hwY] at hg9 hl9 hk9
                have horY := qX hor fun g hg => Below.block hbY g hg
                have hL9 := (hLr.bw hbY).appM (K0 := K) horY hg9 hk9 hfam hnK
                have hx9 : w9.heap[xb]? = some (.cells #[.int .i64 (-77), .int .i64 nn, .int .i64 0] 62 (0, 0)) := (hg9.block xb (Nat.lt_of_lt_of_le xl hbY.size) (fun e => hnx xb e.symm rfl)).trans ((Below.block hbY _ xl).trans hxr)
                have hzY := hbY.size
                have hC9 : Chg K w w9 := by
                  have k1 : Chg K w wY := hCr.trans (Chg.bw (S := K) hbY) (fun _ h => .inl h)
                  have k2 : Chg (fun b => (Value.slice ga (A.length + j) gc).ownBlock = some b) wY w9 := ⟨hg9.os, hg9.tape, hg9.output, hg9.size, fun i hi hn => hg9.block i hi (fun e => hn e.symm)⟩
                  exact k1.trans k2 (fun b hb => .inr (World.ownsRow.lt horY b hb).1)
                have ho9' : w9.ownsRow w.heap.size 62 3 (.slice (some ⟨g9, 0, none⟩) (A.length + j + 1) cap9) (A.length + j + 1) (jW xM nn (A.length + j + 1)) := by rw [jL]; exact ho9
                have hg9n : g9 ≠ xb ∧ w.heap.size ≤ g9 := by
                  refine ⟨?_, (World.ownsRow.lt ho9 g9 rfl).1⟩
                  rcases hl9 with h | h
                  · exact hnx _ h
                  · omega
                have hfam9 : ∀ i, i < m'.length → (kV m' i).len ≤ A.length + j + 1 ∨ ∀ b, (Value.slice (kV m' i).a (kV m' i).len (kV m' i).cap).ownBlock = some b → K b := fun i hi => (hfam i hi).imp (fun h => by omega) id
                have hroot := hL9.root
                rw [qK Hme] at hroot
                have r3 := qQ (o := 3) hroot rfl
                have r2 := qQ (o := 2) hroot rfl
                have rl := (Array.getElem?_eq_some_iff.1 hroot).1
                have HL9 := qJ hL9
                have Ho9 := qJ ho9'
                have Hx9 := qJ hx9
                have HC9 := qJ hC9
                have Hfam9 := qJ hfam9
                have hz9 := hC9.size
                clear hLr hor hxr hCr hfam horY hL9 hx9 hC9 ho9' ho9 hg9 hl9 hk9 hwY hbY hzY hroot Hm x0 x1 x2 xl hzr hfam9
                go_region_law (refine yT rfl _ _ _ 60 rfl _ 2 32 Tryz.infoSent Tryz.underlying37 rfl (by decide) 0 (.slice ma m'.length mc) m'.length (kC m') rfl (qX ((qK Hme) ▸ (qK HL9).m.1) fun g hg => Below.block (show Bw w9 _ from (by repeat first|exact br _|assumption|apply bd|apply bn|apply ba|refine bt ?_ (by assumption))) g hg) _ _ (Ent.cells ⟨some ⟨g9, 0, none⟩, A.length + j + 1, cap9, nn⟩) rfl rfl (xD (qQ (qY _ _ (by simp)) rfl) (qQ (qY _ _ (by simp)) rfl)) (one2 _) (by omega) (by omega) (Nat.zero_le _) ?_; intro g' cap w7 ho7 hg7 hl7; have Hadd := qJ ((qK HL9).addM (e := ⟨some ⟨g9, 0, none⟩, A.length + j + 1, cap9, nn⟩) ⟨qM (qK Ho9) (Nat.zero_le _), fun b hb => .inr (by simp only [Value.ownBlock, Option.some.injEq] at hb; exact hb ▸ hg9n.2)⟩ (by simp only; omega) ho7 ((qK Hme).symm ▸ hg7) (by rcases hl7 with h | h; exact (qK HL9).m.2 _ (by rw [qK Hme]; exact h); exact .inr (by rw [h]; exact Nat.le_trans hz9 (Bw.size (show Bw w9 _ from (by repeat first|exact br _|assumption|apply bd|apply bn|apply ba|refine bt ?_ (by assumption)))))) (show Bw w9 _ from (by repeat first|exact br _|assumption|apply bd|apply bn|apply ba|refine bt ?_ (by assumption)))); have q3 := qQ (o := 3) (qK Hadd).1 rfl; have q3f := qZ (o := 3) (qK Hadd).1; have q3l := (Array.getElem?_eq_some_iff.1 (qK Hadd).1).1)
                all_goals (
                  have Hfin := qJ (⟨hg7, qK Hadd⟩ : _ ∧ _)
                  go_wp2_with fail
                  go_roundw
                  case rel =>
                    obtain ⟨hg7, hw7, hL8⟩ := qK Hfin
                    have hbY : Bw w9 (w9.alloc (.cells #[.slice (some ⟨g9, 0, none⟩) (A.length + j + 1) cap9, .int .i64 nn] 60)).drew := (by repeat first|exact br _|assumption|apply bd|apply bn|apply ba|refine bt ?_ (by assumption))
                    have hm7 := qX ((qK Hme) ▸ (qK HL9).m.1) fun g hg => Below.block hbY g hg
                    have hor8 := qN (k := 3) (u := .slice (some ⟨g', 0, none⟩) (m'.length + 1) cap) hw7 (kQ hm7 hg7 (qX (qK Ho9) fun g hg => Below.block hbY g hg) (by decide)) (by decide)
                    have xl := (Array.getElem?_eq_some_iff.1 (qK Hx9)).1
                    have hxr8 := yZ (k := 3) (u := .slice (some ⟨g', 0, none⟩) (m'.length + 1) cap) hw7 (qW hm7 hg7 ((Below.block hbY _ xl).trans (qK Hx9)) (.inl (by decide))) (by decide)
                    refine ⟨j + 1, some ⟨g9, 0, none⟩, cap9, _, _, by omega, by go_num, rfl, hL8, by have := qK Hml; simp; omega, hor8, hxr8, ?_, ?_, fam_snoc (e := ⟨some ⟨g9, 0, none⟩, A.length + j + 1, cap9, nn⟩) (qK Hfam9) (Nat.le_refl _)⟩
                    · have k1 : Chg K w (w9.alloc (.cells #[.slice (some ⟨g9, 0, none⟩) (A.length + j + 1) cap9, .int .i64 nn] 60)).drew := (qK HC9).trans (Chg.bw (S := K) hbY) (fun _ h => .inl h)
                      have k2 : Chg (fun b => (Value.slice ma m'.length mc).ownBlock = some b) (w9.alloc (.cells #[.slice (some ⟨g9, 0, none⟩) (A.length + j + 1) cap9, .int .i64 nn] 60)).drew w7 := ⟨hg7.os, hg7.tape, hg7.output, hg7.size, fun i hi hn => hg7.block i hi (fun e => hn e.symm)⟩
                      exact (k1.trans k2 (fun b hb => (qK HL9).m.2 b (by rw [qK Hme]; exact hb))).trans (qP _ _ _ _) (fun b h => (qK HL9).kroot.imp (fun hk => h ▸ hk) (fun hk => h ▸ hk))
                    · intro b hb
                      simp only [Value.ownBlock, Option.some.injEq] at hb
                      exact hb ▸ hg9n.1
                  case measure => simp [intOf]; omega)
              · have hj3 : j = 3 := by omega
                subst hj3
                have HLr := qJ hLr
                have HCr := qJ hCr
                clear hLr hor hxr hCr hfam x0 x1 x2 hnx
                go_wp2_with (go_at_call 16; refine (num_any _ _).mono ?_; rintro en wn ⟨rfl, rfl⟩)
                go_ret
                have hml := qK Hml
                have hnn := qK Hnn
                subst hnn
                exact ⟨rfl, x', m', (qK HLr).done klt (qK HCr).size ⟨by simp only; omega, (qK HL).few.2⟩, by omega, qK HCr⟩)
end Go.Proofs.YtfemleimkbjehaaGreat
