import Derived.Test.YtfemleimkbjehaaGreatJ38
namespace Go.Proofs.YtfemleimkbjehaaGreat
set_option linter.unusedVariables false
set_option linter.unusedSimpArgs false
open Go.RowKit

theorem Duo.roAt {w a1 b1 a2 : World} {K Sp Sr : Nat → Prop} {lb pb rb : Nat} {xp : PX} {xr : RX} {x : LX} {cnt : Int} {l : LL} {ns : List Nd} {R W : Nat} {st : RSt} {lim k : Nat} (h : Duo w K Sp Sr lb pb rb xp xr x cnt l ns R W st lim k) (h1 : Bw w a1) (hc1 : Chg Sp a1 b1) (h2 : Bw b1 a2) : ROwn a2 Sr rb xr ns R W (farD ns) st := ((h.ro.bw h1).other hc1 fun b hb hs => h.pr b hs hb).bw h2
theorem Duo.gaveS (ns : List Nd) (W : Nat) (st : RSt) (w n v : Int) : (giveS ns W st w n v).mails.length ≤ st.mails.length + ns.length := by
  unfold giveS
  split
  · simp only [giveSt, List.length_append]
    have := putM_len ns W w n ⟨(doneTo st.opened w n 2 st.opened.length : Nat), 0, v⟩ ns.length
    omega
  · omega
theorem dgive {w : World} {K Sp Sr : Nat → Prop} {lb pb rb : Nat} {xp : PX} {xr : RX} {x : LX} {cnt : Int} {l : LL} {ns : List Nd} {R W : Nat} {st : RSt} {lim k : Nat} (oa ob oc oh : Int) (h : Duo w K Sp Sr lb pb rb xp xr x cnt l ns R W st lim k) (h6 : ∀ k, k < ns.length → (ndn ns k).kind = 6 → 1 ≤ (ndn ns k).k ∧ (ndn ns k).k ≤ 8) (hk : k ≤ 200000) :
    Calls Tryz.prog 17 #[.pointer (some ⟨lb, 0, none⟩), .agg #[.int .i64 1, .int .i64 oa, .int .i64 ob, .int .i64 oc, .int .i64 oh]] w fun e w' => e = .returned (.bool true) ∧ Duo.After w w' (uni K Sp Sr) lb ns R W (k + 1) := by
  have hsm := h.po.small
  have hi := h.inv
  have hop := hi.op
  have hlg := hi.lg
  have hml := hi.ml
  have hgv := hi.gv
  have hlm := h.lm
  refine (lgive_any (Sp := Sp) (Sr := Sr) (Pp := fun a b => ∃ Sp' xp', POwn b Sp' pb xp' ns R W (farD ns) (pstOf ns W (giveS ns W st oa ob oc) (lim + W)) ∧ ∀ c, Sp' c → Sp c ∨ a.heap.size ≤ c) (Pr := fun a b => ∃ Sr' xr', ROwn b Sr' rb xr' ns R W (farD ns) (giveS ns W st oa ob oc) ∧ ∀ c, Sr' c → Sr c ∨ a.heap.size ≤ c) 0 oa ob oc oh (giveE ns W st.opened oa ob) w h.lw (fun hs => h.kp lb h.lw.kroot hs) h.po.slt (fun w' hb => ?_) (fun a1 b1 w' h1 hc1 _ h2 => ?_) h.ro.slt (fun hs => h.kr lb h.lw.kroot hs)).mono ?_
  · refine (pgive_any oa ob oc w' (h.po.bw hb) h6 (fun a b => ?_) (by simp only [pstOf]; omega) (fun a b => ⟨_, rfl, by have := hi.ep a b; omega⟩) (by simp only [pstOf]; omega)).mono ?_
    · have := waitL_len st.mails (a : Int) (b : Int)
      simp only [pstOf]
      omega
    · rintro e w'' ⟨rfl, S', x', hP, hC, hS⟩
      refine ⟨by rw [pgiveE_eq], hC, S', x', hP.gave oa ob oc hi.told (fun i j => ?_) (by omega), hS⟩
      have h3 := waitL_len (giveS ns W st oa ob oc).mails (i : Int) (j : Int)
      have h4 := Duo.gaveS ns W st oa ob oc
      omega
  · refine (rgive_any oa ob oc w' (h.roAt h1 hc1 h2) (by omega) (by omega) (by omega) h6).mono ?_
    rintro e w'' ⟨rfl, S', x', hR, hC, hS⟩
    exact ⟨rfl, hC, S', x', hR, hS⟩
  · rintro e w' ⟨rfl, a1, b1, a2, h1, hc1, hp, h2, hc2, hr⟩
    exact ⟨rfl, h.both h1 hc1 hp h2 hc2 hr (hi.gave hsm.1 hsm.2.2.2.2.1 oa ob oc)⟩
theorem dadvance {w : World} {K Sp Sr : Nat → Prop} {lb pb rb : Nat} {xp : PX} {xr : RX} {x : LX} {cnt : Int} {l : LL} {ns : List Nd} {R W : Nat} {st : RSt} {lim k : Nat} (oa ob oc oh : Int) (h : Duo w K Sp Sr lb pb rb xp xr x cnt l ns R W st lim k) (hk : k ≤ 200000) :
    Calls Tryz.prog 17 #[.pointer (some ⟨lb, 0, none⟩), .agg #[.int .i64 2, .int .i64 oa, .int .i64 ob, .int .i64 oc, .int .i64 oh]] w fun e w' => e = .returned (.bool true) ∧ Duo.After w w' (uni K Sp Sr) lb ns R W (k + 1) := by
  have hsm := h.po.small
  have hi := h.inv
  have hop := hi.op
  have hlg := hi.lg
  have hml := hi.ml
  have hgv := hi.gv
  have hlm := h.lm
  refine (ladvance_any (Sp := Sp) (Sr := Sr) (Pp := fun a b => ∃ Sp' xp', POwn b Sp' pb xp' ns R W (farD ns) (pstOf ns W (advS ns W st oa ob) (lim + W)) ∧ ∀ c, Sp' c → Sp c ∨ a.heap.size ≤ c) (Pr := fun a b => ∃ Sr' xr', ROwn b Sr' rb xr' ns R W (farD ns) (advS ns W st oa ob) ∧ ∀ c, Sr' c → Sr c ∨ a.heap.size ≤ c) 0 oa ob oc oh (advE ns W st.opened oa ob) w h.lw (fun hs => h.kp lb h.lw.kroot hs) h.po.slt (fun w' hb => ?_) (fun a1 b1 w' h1 hc1 _ h2 => ?_) h.ro.slt (fun hs => h.kr lb h.lw.kroot hs)).mono ?_
  · refine (padvance_any oa ob w' (h.po.bw hb) (by simp only [pstOf]; omega) (fun a b => ⟨_, rfl, by have := hi.ep a b; omega⟩)).mono ?_
    rintro e w'' ⟨rfl, S', x', hP, hC, hS⟩
    refine ⟨by rw [padvE_eq], hC, S', x', hP.advanced oa ob hi.told (fun i j => ?_) (by omega), hS⟩
    have h3 := waitL_len st.mails (i : Int) (j : Int)
    omega
  · refine (radvance_any oa ob w' (h.roAt h1 hc1 h2) (by omega) (by omega)).mono ?_
    rintro e w'' ⟨rfl, S', x', hR, hC, hS⟩
    exact ⟨rfl, hC, S', x', hR, hS⟩
  · rintro e w' ⟨rfl, a1, b1, a2, h1, hc1, hp, h2, hc2, hr⟩
    exact ⟨rfl, h.both h1 hc1 hp h2 hc2 hr (hi.advanced hsm.2.2.2.2.1 oa ob)⟩
theorem dclose {w : World} {K Sp Sr : Nat → Prop} {lb pb rb : Nat} {xp : PX} {xr : RX} {x : LX} {cnt : Int} {l : LL} {ns : List Nd} {R W : Nat} {st : RSt} {lim k : Nat} (oa ob oc oh : Int) (h : Duo w K Sp Sr lb pb rb xp xr x cnt l ns R W st lim k) (hk : k ≤ 200000) :
    Calls Tryz.prog 17 #[.pointer (some ⟨lb, 0, none⟩), .agg #[.int .i64 3, .int .i64 oa, .int .i64 ob, .int .i64 oc, .int .i64 oh]] w fun e w' => e = .returned (.bool true) ∧ Duo.After w w' (uni K Sp Sr) lb ns R W (k + 1) := by
  have hsm := h.po.small
  have hi := h.inv
  have hop := hi.op
  have hlg := hi.lg
  have hml := hi.ml
  have hgv := hi.gv
  have hlm := h.lm
  refine (lclose_any (Sp := Sp) (Sr := Sr) (Pp := fun a b => ∃ Sp' xp', POwn b Sp' pb xp' ns R W (farD ns) (pstOf ns W (clsS ns W st oa ob) (lim + W)) ∧ ∀ c, Sp' c → Sp c ∨ a.heap.size ≤ c) (Pr := fun a b => ∃ Sr' xr', ROwn b Sr' rb xr' ns R W (farD ns) (clsS ns W st oa ob) ∧ ∀ c, Sr' c → Sr c ∨ a.heap.size ≤ c) 0 oa ob oc oh (sourceE ns W st.opened oa ob) w h.lw (fun hs => h.kp lb h.lw.kroot hs) h.po.slt (fun w' hb => ?_) (fun a1 b1 w' h1 hc1 _ h2 => ?_) h.ro.slt (fun hs => h.kr lb h.lw.kroot hs)).mono ?_
  · refine (pclose_any oa ob w' (h.po.bw hb) (by simp only [pstOf]; omega) (fun a b => ⟨_, rfl, by have := hi.ep a b; omega⟩)).mono ?_
    rintro e w'' ⟨rfl, S', x', hP, hC, hS⟩
    refine ⟨by rw [psrcE_eq], hC, S', x', hP.closed oa ob hi.told (fun i j => ?_) (by omega), hS⟩
    have h3 := waitL_len st.mails (i : Int) (j : Int)
    omega
  · refine (rclose_any oa ob w' (h.roAt h1 hc1 h2) (by omega) (by omega)).mono ?_
    rintro e w'' ⟨rfl, S', x', hR, hC, hS⟩
    exact ⟨rfl, hC, S', x', hR, hS⟩
  · rintro e w' ⟨rfl, a1, b1, a2, h1, hc1, hp, h2, hc2, hr⟩
    exact ⟨rfl, h.both h1 hc1 hp h2 hc2 hr (hi.closed hsm.2.2.2.2.1 oa ob)⟩
end Go.Proofs.YtfemleimkbjehaaGreat
