import Derived.Test.YtfemleimkbjehaaGreatJ36
import Derived.Test.YtfemleimkbjehaaGreatJ37
namespace Go.Proofs.YtfemleimkbjehaaGreat
open Go.RowKit

/-- A run of the program, the document's, and what the statement keeps, in step. -/
structure Duo (w : World) (K Sp Sr : Nat → Prop) (lb pb rb : Nat) (xp : PX) (xr : RX) (x : LX) (cnt : Int) (l : LL) (ns : List Nd) (R W : Nat) (st : RSt) (lim k : Nat) : Prop where
  lw : LW w K lb pb rb x cnt l
  po : POwn w Sp pb xp ns R W (farD ns) (pstOf ns W st lim)
  ro : ROwn w Sr rb xr ns R W (farD ns) st
  inv : Inv ns R W st k
  kp : ∀ b, K b → ¬ Sp b
  kr : ∀ b, K b → ¬ Sr b
  pr : ∀ b, Sp b → ¬ Sr b
  lm : lim ≤ 4 * k
  ct : 0 ≤ cnt ∧ cnt ≤ 1048576 + k
  km : l.m.length ≤ 4 * k ∧ l.p.length ≤ 4 * k ∧ l.t.length ≤ 4 * k ∧ l.r.length ≤ 4 * k
/-- All that it owns. -/
def uni (K Sp Sr : Nat → Prop) : Nat → Prop := fun b => K b ∨ Sp b ∨ Sr b
def Duo.After (w w' : World) (U : Nat → Prop) (lb : Nat) (ns : List Nd) (R W k : Nat) : Prop :=
  ∃ K Sp Sr pb rb xp xr x cnt l st lim, Duo w' K Sp Sr lb pb rb xp xr x cnt l ns R W st lim k ∧ Chg U w w' ∧ ∀ b, uni K Sp Sr b → U b ∨ w.heap.size ≤ b
theorem waitL_len (ms : List Ml) (w n : Int) : (waitL ms w n).length ≤ ms.length := by
  unfold waitL
  rw [List.length_map]
  exact waitTo_len ms w n _
theorem farD_bd (ns : List Nd) (h8 : ns.length ≤ 8) (a b : Nat) : -1 ≤ farD ns a b ∧ farD ns a b ≤ 1000 := by
  have := leastB_bd ns (b : Int) ns.length (a : Int)
  unfold farD
  omega
/-- Both runs take a step that changes them. -/
theorem Duo.both {w a1 b1 a2 w' : World} {K Sp Sr : Nat → Prop} {lb pb rb : Nat} {xp : PX} {xr : RX} {x : LX} {cnt : Int} {l : LL} {ns : List Nd} {R W : Nat} {st st' : RSt} {lim k : Nat} (h : Duo w K Sp Sr lb pb rb xp xr x cnt l ns R W st lim k)
    (h1 : Bw w a1) (hc1 : Chg Sp a1 b1) (hp : ∃ Sp' xp', POwn b1 Sp' pb xp' ns R W (farD ns) (pstOf ns W st' (lim + W)) ∧ ∀ b, Sp' b → Sp b ∨ a1.heap.size ≤ b) (h2 : Bw b1 a2) (hc2 : Chg Sr a2 w') (hr : ∃ Sr' xr', ROwn w' Sr' rb xr' ns R W (farD ns) st' ∧ ∀ b, Sr' b → Sr b ∨ a2.heap.size ≤ b) (hi : Inv ns R W st' (k + 1)) : Duo.After w w' (uni K Sp Sr) lb ns R W (k + 1) := by
  obtain ⟨Sp', xp', hP, hS⟩ := hp
  obtain ⟨Sr', xr', hR', hT⟩ := hr
  have z1 := h1.size
  have z2 := hc1.size
  have z3 := h2.size
  have z4 := hc2.size
  have kl := h.lw.klt
  have sl := h.po.slt
  have rl := h.ro.slt
  have hW := h.po.small
  have hPS := hP.slt
  have hCa : Chg (uni K Sp Sr) w b1 := (Chg.bw (S := uni K Sp Sr) h1).trans hc1 (fun b hb => .inl (.inr (.inl hb)))
  have hCb : Chg (uni K Sp Sr) w a2 := hCa.trans (Chg.bw (S := uni K Sp Sr) h2) (fun _ h => .inl h)
  have hCw : Chg (uni K Sp Sr) w w' := hCb.trans hc2 (fun b hb => .inl (.inr (.inr hb)))
  have hPw : POwn w' Sp' pb xp' ns R W (farD ns) (pstOf ns W st' (lim + W)) := (hP.bw h2).other hc2 fun b hb hs => by
    rcases hS b hb with h5 | h5
    · exact h.pr b h5 hs
    · have := rl b hs; omega
  have hLw : LW w' K lb pb rb x cnt l := (((h.lw.bw h1).other hc1 h.kp).bw h2).other hc2 h.kr
  have hl := h.lm
  have hct := h.ct
  have hkm := h.km
  refine ⟨K, Sp', Sr', pb, rb, xp', xr', x, cnt, l, st', lim + W, ⟨hLw, hPw, hR', hi, fun b hb hs => ?_, fun b hb hs => ?_, fun b hb hs => ?_, by omega, ⟨hct.1, by omega⟩, by omega⟩, hCw, fun b hb => ?_⟩
  · rcases hS b hs with h5 | h5
    · exact h.kp b hb h5
    · have := kl b hb; omega
  · rcases hT b hs with h5 | h5
    · exact h.kr b hb h5
    · have := kl b hb; omega
  · rcases hT b hs with h5 | h5
    · rcases hS b hb with h6 | h6
      · exact h.pr b h6 h5
      · have := rl b h5; omega
    · have := hPS b hb; omega
  · rcases hb with hb | hb | hb
    · exact .inl (.inl hb)
    · rcases hS b hb with h5 | h5
      · exact .inl (.inr (.inl h5))
      · exact .inr (by omega)
    · rcases hT b hb with h5 | h5
      · exact .inl (.inr (.inr h5))
      · exact .inr (by omega)
end Go.Proofs.YtfemleimkbjehaaGreat
namespace Go.Proofs.YtfemleimkbjehaaGreat
open Go.RowKit

theorem Duo.roAt {w a1 b1 a2 : World} {K Sp Sr : Nat → Prop} {lb pb rb : Nat} {xp : PX} {xr : RX} {x : LX} {cnt : Int} {l : LL} {ns : List Nd} {R W : Nat} {st : RSt} {lim k : Nat} (h : Duo w K Sp Sr lb pb rb xp xr x cnt l ns R W st lim k) (h1 : Bw w a1) (hc1 : Chg Sp a1 b1) (h2 : Bw b1 a2) : ROwn a2 Sr rb xr ns R W (farD ns) st := ((h.ro.bw h1).other hc1 fun b hb hs => h.pr b hs hb).bw h2
theorem Duo.gaveS (ns : List Nd) (W : Nat) (st : RSt) (w n v : Int) : (giveS ns W st w n v).mails.length ≤ st.mails.length + ns.length := by
  unfold giveS
  split
  · simp only [giveSt, List.length_append]
    have := putM_len ns W w n ⟨(doneTo st.opened w n 2 st.opened.length : Nat), 0, v⟩ ns.length
    omega
  · omega
theorem dadvance {w : World} {K Sp Sr : Nat → Prop} {lb pb rb : Nat} {xp : PX} {xr : RX} {x : LX} {cnt : Int} {l : LL} {ns : List Nd} {R W : Nat} {st : RSt} {lim k : Nat} (oa ob oc oh : Int) (h : Duo w K Sp Sr lb pb rb xp xr x cnt l ns R W st lim k) (hk : k ≤ 200000) :
    Calls Tryz.prog 17 #[.pointer (some ⟨lb, 0, none⟩), .agg #[.int .i64 2, .int .i64 oa, .int .i64 ob, .int .i64 oc, .int .i64 oh]] w fun e w' => e = .returned (.bool true) ∧ Duo.After w w' (uni K Sp Sr) lb ns R W (k + 1) := by
  have hsm := h.po.small
  have hi := h.inv
  have hop := hi.op
  have hlg := hi.lg
  have hml := hi.ml
  have hgv := hi.gv
  have hlm := h.lm
  refine (ladvance_any (Sp := Sp) (Sr := Sr) (Pp := fun a b => ∃ Sp' xp', POwn b Sp' pb xp' ns R W (farD ns) (pstOf ns W (advS ns W st oa ob) (lim + W)) ∧ ∀ c, Sp' c → Sp c ∨ a.heap.size ≤ c) (Pr := fun a b => ∃ Sr' xr', ROwn b Sr' rb xr' ns R W (farD ns) (advS ns W st oa ob) ∧ ∀ c, Sr' c → Sr c ∨ a.heap.size ≤ c) 0 oa ob oc oh (advE ns W st.opened oa ob) w h.lw (fun hs => h.kp lb h.lw.kroot hs) h.po.slt (fun w' hb => ?_) (fun a1 b1 w' h1 hc1 _ h2 => ?_) h.ro.slt (fun hs => h.kr lb h.lw.kroot hs)).mono ?_
  · refine (padvance_any oa ob w' (h.po.bw hb) (by simp only [pstOf]; omega) (fun a b => ⟨_, rfl, by have := hi.ep a b; omega⟩)).mono ?_
    rintro e w'' ⟨rfl, S', x', hP, hC, hS⟩
    refine ⟨by rw [padvE_eq], hC, S', x', hP.advanced oa ob hi.told (fun i j => ?_) (by omega), hS⟩
    have h3 := waitL_len st.mails (i : Int) (j : Int)
    omega
  · refine (radvance_any oa ob w' (h.roAt h1 hc1 h2) (by omega) (by omega)).mono ?_
    rintro e w'' ⟨rfl, S', x', hR, hC, hS⟩
    exact ⟨rfl, hC, S', x', hR, hS⟩
  · rintro e w' ⟨rfl, a1, b1, a2, h1, hc1, hp, h2, hc2, hr⟩
    exact ⟨rfl, h.both h1 hc1 hp h2 hc2 hr (hi.advanced hsm.2.2.2.2.1 oa ob)⟩
theorem dclose {w : World} {K Sp Sr : Nat → Prop} {lb pb rb : Nat} {xp : PX} {xr : RX} {x : LX} {cnt : Int} {l : LL} {ns : List Nd} {R W : Nat} {st : RSt} {lim k : Nat} (oa ob oc oh : Int) (h : Duo w K Sp Sr lb pb rb xp xr x cnt l ns R W st lim k) (hk : k ≤ 200000) :
    Calls Tryz.prog 17 #[.pointer (some ⟨lb, 0, none⟩), .agg #[.int .i64 3, .int .i64 oa, .int .i64 ob, .int .i64 oc, .int .i64 oh]] w fun e w' => e = .returned (.bool true) ∧ Duo.After w w' (uni K Sp Sr) lb ns R W (k + 1) := by
  have hsm := h.po.small
  have hi := h.inv
  have hop := hi.op
  have hlg := hi.lg
  have hml := hi.ml
  have hgv := hi.gv
  have hlm := h.lm
  refine (lclose_any (Sp := Sp) (Sr := Sr) (Pp := fun a b => ∃ Sp' xp', POwn b Sp' pb xp' ns R W (farD ns) (pstOf ns W (clsS ns W st oa ob) (lim + W)) ∧ ∀ c, Sp' c → Sp c ∨ a.heap.size ≤ c) (Pr := fun a b => ∃ Sr' xr', ROwn b Sr' rb xr' ns R W (farD ns) (clsS ns W st oa ob) ∧ ∀ c, Sr' c → Sr c ∨ a.heap.size ≤ c) 0 oa ob oc oh (sourceE ns W st.opened oa ob) w h.lw (fun hs => h.kp lb h.lw.kroot hs) h.po.slt (fun w' hb => ?_) (fun a1 b1 w' h1 hc1 _ h2 => ?_) h.ro.slt (fun hs => h.kr lb h.lw.kroot hs)).mono ?_
  · refine (pclose_any oa ob w' (h.po.bw hb) (by simp only [pstOf]; omega) (fun a b => ⟨_, rfl, by have := hi.ep a b; omega⟩)).mono ?_
    rintro e w'' ⟨rfl, S', x', hP, hC, hS⟩
    refine ⟨by rw [psrcE_eq], hC, S', x', hP.closed oa ob hi.told (fun i j => ?_) (by omega), hS⟩
    have h3 := waitL_len st.mails (i : Int) (j : Int)
    omega
  · refine (rclose_any oa ob w' (h.roAt h1 hc1 h2) (by omega) (by omega)).mono ?_
    rintro e w'' ⟨rfl, S', x', hR, hC, hS⟩
    exact ⟨rfl, hC, S', x', hR, hS⟩
  · rintro e w' ⟨rfl, a1, b1, a2, h1, hc1, hp, h2, hc2, hr⟩
    exact ⟨rfl, h.both h1 hc1 hp h2 hc2 hr (hi.closed hsm.2.2.2.2.1 oa ob)⟩
end Go.Proofs.YtfemleimkbjehaaGreat
