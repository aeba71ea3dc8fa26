import Derived.Test.YtfemleimkbjehaaGreatJ21
import Derived.Test.YtfemleimkbjehaaGreatRunO
set_option maxRecDepth 1000000
set_option maxHeartbeats 40000000
set_option linter.unusedVariables false
set_option linter.unusedSimpArgs false
namespace Go.Proofs.YtfemleimkbjehaaGreat
open Go.RowKit
theorem pnew_bad (ns : List Nd) (ga : Option Addr) (gc : Nat) (r wk : Int) (w : World) (hn : NodesAt w ga ns) (hgl : ns.length ≤ maxLen) (hE : newE ns r wk ≠ 0) :
    Calls Tryz.prog 13 #[.agg #[.slice ga ns.length gc, .int .i64 r], .int .i64 wk] w fun e w' => e = .returned (.tuple #[.pointer none, .int .i64 (newE ns r wk)]) ∧ Bw w w' := by
  have H := qJ (fun (w' : World) (h : Bw w w') => prnew_bad ns ga gc r wk w' (hn.below h) hgl hE)
  generalize newE ns r wk = E at *
  have hE2 : (E != 0) = true := by simpa using hE
  clear hE hn
  go_enter Tryz.func13, Tryz.ntmps13
  go_wp2_with (go_at_call 25; refine ((qK H) _ (by repeat first|exact br _|assumption|apply bd|apply bn|apply ba|refine bt ?_ (by assumption))).mono ?_; rintro e w1 ⟨rfl, hb1⟩; simp only [zrun])
  go_ret2
  exact ⟨rfl, (by repeat first|exact br _|assumption|apply bd|apply bn|apply ba|refine bt ?_ (by assumption))⟩
theorem pnew_ok (ns : List Nd) (ga : Option Addr) (gc : Nat) (R W : Nat) (w : World) (hn : NodesAt w ga ns) (hE : zG ns R = 0) (h1 : 1 ≤ ns.length) (h8 : ns.length ≤ 8) (hW1 : 1 ≤ W) (hW4 : W ≤ 4) (hR1 : 1 ≤ R) (hR4 : R ≤ 4) :
    Calls Tryz.prog 13 #[.agg #[.slice ga ns.length gc, .int .i64 (R : Int)], .int .i64 (W : Int)] w fun e w' => ∃ pb x, e = .returned (.tuple #[.pointer (some ⟨pb, 0, none⟩), .int .i64 0]) ∧ POwn w' (fun b => w.heap.size ≤ b ∧ b < w'.heap.size) pb x ns R W (zU ns) (pst0 (begT ns W)) ∧ Bw w w' := by
  have H := qJ (fun (w' : World) (h : Bw w w') => prnew_ok ns ga gc R W w' (hn.below h) hE h1 h8 hW1 hW4 hR4)
  clear hE hn
  go_enter Tryz.func13, Tryz.ntmps13
  go_wp2_with (go_at_call 25; refine ((qK H) _ (by repeat first|exact br _|assumption|apply bd|apply bn|apply ba|refine bt ?_ (by assumption))).mono ?_; rintro e w1 ⟨vn, vd, wb, wc, warr, rfl, hnd, hds, hwk, hwl, hws, hwt, hb1⟩; obtain ⟨na, nc, hne⟩ : ∃ na nc, vn = .slice na ns.length nc := ⟨_, _, qV hnd⟩; subst hne; obtain ⟨da, dc, hde⟩ : ∃ da dc, vd = .slice da ns.length dc := (by obtain ⟨vs, h, _⟩ := hds; exact ⟨_, _, qV h⟩); subst hde)
  go_ret2
  obtain ⟨hA0, hA1, hAB⟩ := alloc2 w1 (.cells #[.slice na ns.length nc, .int .i64 (R : Int), .slice da ns.length dc, .slice (some ⟨wb, 0, none⟩) W wc, .int .i64 0, .slice none 0 0] 88) (.cells #[.slice na ns.length nc, .int .i64 (R : Int), .slice da ns.length dc, .slice (some ⟨wb, 0, none⟩) W wc, .int .i64 0, .slice none 0 0] 92)
  obtain ⟨w2, hw2⟩ : ∃ w2, (w1.alloc (.cells #[.slice na ns.length nc, .int .i64 (R : Int), .slice da ns.length dc, .slice (some ⟨wb, 0, none⟩) W wc, .int .i64 0, .slice none 0 0] 88)).alloc (.cells #[.slice na ns.length nc, .int .i64 (R : Int), .slice da ns.length dc, .slice (some ⟨wb, 0, none⟩) W wc, .int .i64 0, .slice none 0 0] 92) = w2 := ⟨_, rfl⟩
  rw [hw2] at hA1 hAB
  rw [hw2]
  have hB : Bw w w2 := (show Bw w w1 from (by repeat first|exact br _|assumption|apply bd|apply bn|apply ba|refine bt ?_ (by assumption))).trans hAB
  have hz : w.heap.size ≤ (w.alloc (.cells #[.slice ga ns.length gc, .int .i64 (R : Int)] 24)).heap.size := by simp
  have hz1 : w.heap.size ≤ w1.heap.size := Bw.size (by repeat first|exact br _|assumption|apply bd|apply bn|apply ba|refine bt ?_ (by assumption))
  have hnd2 := qX hnd fun g hg => Below.block hAB g hg
  have hwk2 := (Below.block hAB _ (Array.getElem?_eq_some_iff.1 hwk).1).trans hwk
  have hds2 : TabB w.heap.size w2 (.slice da ns.length dc) ns.length ns.length (zU ns) := by
    obtain ⟨vs, a1, a2⟩ := (hds.bw hAB).weak hz
    refine ⟨vs, a1, fun i hi => ?_⟩
    obtain ⟨u, eu, a3⟩ := a2 i hi
    refine ⟨u, eu, ?_⟩
    have : vJ ns.length (zU ns i) = vJ ns.length (distD ns i) := by
      unfold vJ
      refine List.map_congr_left fun j hj => ?_
      rw [distD_far h1 (by simpa using hj)]
    rw [this]
    exact a3
  refine ⟨w1.heap.size + 1, ⟨#[.slice na ns.length nc, .int .i64 (R : Int), .slice da ns.length dc, .slice (some ⟨wb, 0, none⟩) W wc, .int .i64 0, .slice none 0 0], .slice na ns.length nc, .slice da ns.length dc, wb, wc, warr, .slice none 0 0⟩, rfl, ?_, hB⟩
  refine ⟨hA1, rfl, rfl, rfl, rfl, rfl, rfl, hwk2, ⟨by omega, (Array.getElem?_eq_some_iff.1 hA1).1⟩, ⟨Nat.le_trans hz hwl, (Array.getElem?_eq_some_iff.1 hwk2).1⟩, fun b hb => hb.2, ⟨qM hnd2 (Nat.zero_le _), fun b hb => ⟨Nat.le_trans hz (World.ownsRow.lt hnd2 b hb).1, (World.ownsRow.lt hnd2 b hb).2⟩⟩, hds2.tabIn fun b a1 a2 => ⟨a1, a2⟩, ⟨World.ownsRow_nil _ _ _ _, by simp [Value.ownBlock]⟩, PRow.first h8 hws hwt, ⟨h8, hR4, hW4, hW1, hR1, h1⟩, ⟨fun _ _ => by simp [pst0], by simp [pst0]⟩⟩
structure Ent where
  a : Option Addr
  len : Nat
  cap : Nat
  n : Int
def Ent.cells (e : Ent) : List Value := [.slice e.a e.len e.cap, .int .i64 e.n]
def kV (l : List Ent) (k : Nat) : Ent := l.getD k ⟨none, 0, 0, 0⟩
def kC (l : List Ent) : List Value := l.flatMap Ent.cells
def xM (n : Int) : List Value := [.int .i64 (-77), .int .i64 n, .int .i64 0]
def xP (n : Int) : List Value := [.int .i64 (-77), .bool false, .int .i64 n, .int .i64 0, .int .i64 0]
def xT (n : Int) : List Value := [.int .i64 (-77), .int .i64 n]
def xR (n : Int) : List Value := [.int .i64 (-77), .int .i64 0, .int .i64 n, .int .i64 0, .int .i64 0]
def jW (X : Int → List Value) (n : Int) (k : Nat) : List Value := (List.replicate k (X n)).flatten
theorem jL (X : Int → List Value) (n : Int) (k : Nat) : jW X n (k + 1) = jW X n k ++ X n := by
  unfold jW
  rw [List.replicate_succ', List.flatten_append]
  simp
theorem fullL_get {X : Int → List Value} {n : Int} {sz : Nat} (hX : (X n).length = sz) : ∀ (k j f : Nat), j < k → f < sz → (jW X n k)[j * sz + f]? = (X n)[f]? := by
  intro k
  induction k with
  | zero => intro j f h; omega
  | succ k ih =>
    intro j f hj hf
    have hl : (jW X n k).length = k * sz := by simp [jW, hX]
    rw [jL]
    by_cases e : j < k
    · have : j * sz + f < k * sz := by
        calc j * sz + f < j * sz + sz := by omega
          _ = (j + 1) * sz := by rw [Nat.add_mul]; omega
          _ ≤ k * sz := Nat.mul_le_mul_right _ e
      rw [List.getElem?_append_left (by rw [hl]; exact this)]
      exact ih j f e hf
    · have : j = k := by omega
      subst this
      rw [List.getElem?_append_right (by rw [hl]; omega), hl, show j * sz + f - j * sz = f by omega]
def EntOk (w : World) (K : Nat → Prop) (ty : TypeId) (X : Int → List Value) (sz : Nat) (e : Ent) : Prop := OwnsIn K w ty sz (.slice e.a e.len e.cap) e.len (jW X e.n e.len)
theorem EntOk.read {w : World} {K : Nat → Prop} {ty : TypeId} {X : Int → List Value} {sz : Nat} {e : Ent} (hX : (X e.n).length = sz) (h : EntOk w K ty X sz e) (hl : 0 < e.len) : ∃ b, e.a = some ⟨b, 0, none⟩ ∧ K b ∧ ∀ j, j < e.len → ∀ f u, (X e.n)[f]? = some u → w.cell? ⟨b, j * sz + f, none⟩ = some u := by
  obtain ⟨g, eg, _, hc⟩ := qB h.1 hl
  simp only [kY] at eg
  refine ⟨g, eg, h.2 g (by rw [eg]; rfl), fun j hj f u hu => hc _ _ ?_⟩
  have hf : f < sz := by rw [← hX]; exact (List.getElem?_eq_some_iff.1 hu).1
  rw [fullL_get hX _ j f hj hf]
  exact hu
def EntsOk (w : World) (K : Nat → Prop) (ty : TypeId) (X : Int → List Value) (sz : Nat) (l : List Ent) : Prop := ∀ i, i < l.length → EntOk w K ty X sz (kV l i) ∧ (kV l i).len ≤ 1000000000
theorem EntsOk.map {w w' : World} {K K' : Nat → Prop} {ty : TypeId} {X : Int → List Value} {sz : Nat} {l : List Ent} (h : EntsOk w K ty X sz l) (hf : ∀ (u : Value) (m : Nat) (ys : List Value), OwnsIn K w ty sz u m ys → OwnsIn K' w' ty sz u m ys) : EntsOk w' K' ty X sz l := fun i hi => ⟨hf _ _ _ (h i hi).1, (h i hi).2⟩
structure LX where
  m : Value
  p : Value
  t : Value
  r : Value
structure LL where
  m : List Ent
  p : List Ent
  t : List Ent
  r : List Ent
structure LW (w : World) (K : Nat → Prop) (lb pb rb : Nat) (x : LX) (cnt : Int) (l : LL) : Prop where
  root : w.heap[lb]? = some (.cells #[.pointer (some ⟨pb, 0, none⟩), .pointer (some ⟨rb, 0, none⟩), .int .i64 cnt, x.m, x.p, x.t, x.r] 42 (0, 0))
  kroot : K lb
  klt : ∀ b, K b → b < w.heap.size
  m : OwnsIn K w 60 2 x.m l.m.length (kC l.m)
  p : OwnsIn K w 65 2 x.p l.p.length (kC l.p)
  t : OwnsIn K w 70 2 x.t l.t.length (kC l.t)
  r : OwnsIn K w 75 2 x.r l.r.length (kC l.r)
  km : EntsOk w K 62 xM 3 l.m
  kp : EntsOk w K 67 xP 5 l.p
  kt : EntsOk w K 72 xT 2 l.t
  kr : EntsOk w K 77 xR 5 l.r
  few : l.m.length ≤ 900000000 ∧ l.p.length ≤ 900000000 ∧ l.t.length ≤ 900000000 ∧ l.r.length ≤ 900000000
theorem LW.frame {w w' : World} {K : Nat → Prop} {lb pb rb : Nat} {x : LX} {cnt : Int} {l : LL} (h : LW w K lb pb rb x cnt l) (hz : w.heap.size ≤ w'.heap.size) (hf : ∀ b, K b → b < w.heap.size → w'.heap[b]? = w.heap[b]?) : LW w' K lb pb rb x cnt l :=
  ⟨(hf lb h.kroot (h.klt _ h.kroot)).trans h.root, h.kroot, fun b hb => Nat.lt_of_lt_of_le (h.klt b hb) hz, h.m.frame hf, h.p.frame hf, h.t.frame hf, h.r.frame hf, h.km.map fun _ _ _ h => h.frame hf, h.kp.map fun _ _ _ h => h.frame hf, h.kt.map fun _ _ _ h => h.frame hf, h.kr.map fun _ _ _ h => h.frame hf, h.few⟩
theorem LW.bw {w w' : World} {K : Nat → Prop} {lb pb rb : Nat} {x : LX} {cnt : Int} {l : LL} (h : LW w K lb pb rb x cnt l) (hb : Bw w w') : LW w' K lb pb rb x cnt l := h.frame hb.size fun b _ hl => Below.block hb b hl
theorem LW.other {w w' : World} {K T : Nat → Prop} {lb pb rb : Nat} {x : LX} {cnt : Int} {l : LL} (h : LW w K lb pb rb x cnt l) (hc : Chg T w w') (hd : ∀ b, K b → ¬ T b) : LW w' K lb pb rb x cnt l := h.frame hc.size fun b hb hl => hc.block b hl (hd b hb)
theorem ents_at {K : Nat → Prop} {w : World} {ty : TypeId} {v : Value} {l : List Ent} (h : OwnsIn K w ty 2 v l.length (kC l)) : ∀ i, i < l.length → ∃ g, kY v = some ⟨g, 0, none⟩ ∧ g < w.heap.size ∧ w.cell? ⟨g, i * 2, none⟩ = some (.slice (kV l i).a (kV l i).len (kV l i).cap) ∧ w.cell? ⟨g, i * 2 + 1, none⟩ = some (.int .i64 (kV l i).n) := by
  intro i hi
  obtain ⟨g, e, hl, hc⟩ := qB h.1 (by omega)
  have q : ∀ f, f < 2 → ∀ u, (Ent.cells (kV l i))[f]? = some u → w.cell? ⟨g, i * 2 + f, none⟩ = some u := fun f hf u hu => hc _ _ ((vL (f := Ent.cells) (d := ⟨none, 0, 0, 0⟩) (fun _ => rfl) l i hi f hf).trans hu)
  exact ⟨g, e, hl, q 0 (by omega) _ rfl, q 1 (by omega) _ rfl⟩
/-- Every list that came out still reads as its owner wrote it. -/
theorem looks_any {K : Nat → Prop} {lb pb rb : Nat} {x : LX} {cnt : Int} {l : LL} (w : World) (hL : LW w K lb pb rb x cnt l) :
    Calls Tryz.prog 10 #[.pointer (some ⟨lb, 0, none⟩)] w fun e w' => e = .returned (.bool true) ∧ Bw w w' := by
  obtain ⟨xm, xp, xt, xr⟩ := x
  obtain ⟨lm, lp, lt, lr⟩ := l
  obtain ⟨ma, mc, hm⟩ : ∃ a c, xm = .slice a lm.length c := ⟨_, _, qV hL.m.1⟩
  obtain ⟨pa, pc, hp⟩ : ∃ a c, xp = .slice a lp.length c := ⟨_, _, qV hL.p.1⟩
  obtain ⟨ta, tc, ht⟩ : ∃ a c, xt = .slice a lt.length c := ⟨_, _, qV hL.t.1⟩
  obtain ⟨ra, rc, hr⟩ : ∃ a c, xr = .slice a lr.length c := ⟨_, _, qV hL.r.1⟩
  subst hm hp ht hr
  have HL := qJ hL
  have HB := Bw.refl w
  clear hL
  go_enter Tryz.func10, Tryz.ntmps10
  go_wp2_with fail
  go_loopw [3] (fun i wr => ∃ k : Nat, k ≤ lm.length ∧ i = .int .i64 k ∧ Bw w wr) (fun i _ => lm.length - (intOf i).toNat)
  case atStart => exact ⟨0, Nat.zero_le _, rfl, HB⟩
  case round =>
    clear HB
    obtain ⟨k, hk, rfl, hB⟩ := hrel
    rename World => w1
    have hL := (qK HL).bw hB
    have c := qQ (o := 3) hL.root rfl
    have cl := (Array.getElem?_eq_some_iff.1 hL.root).1
    by_cases hlt : k < lm.length
    · obtain ⟨g, eg, hgl, e0, e1⟩ := ents_at hL.m k hlt
      obtain ⟨he, hel⟩ := hL.km k hlt
      simp only [kY] at eg
      rw [eg] at c
      have hk1 : (k : Int) < (lm.length : Int) := by omega
      have hf := hL.few
      have klt := hL.klt
      clear hL
      generalize kV lm k = en at *
      obtain ⟨ea, elen, ecap, enn⟩ := en
      simp only at e0 e1 hel
      have he2 : 0 < elen → ∃ b, ea = some ⟨b, 0, none⟩ ∧ K b ∧ ∀ j, j < elen → ∀ f u, (xM enn)[f]? = some u → w1.cell? ⟨b, j * 3 + f, none⟩ = some u := fun h => EntOk.read (e := ⟨ea, elen, ecap, enn⟩) rfl he h
      clear he
      have Heg := qJ eg
      clear eg
      go_wp2_with fail
      go_loopw [4] (fun j wr => ∃ q : Nat, q ≤ elen ∧ j = .int .i64 q ∧ Bw w1 wr) (fun j _ => elen - (intOf j).toNat)
      case atStart => exact ⟨0, Nat.zero_le _, rfl, Bw.refl _⟩
      case round =>
        obtain ⟨q, hq, rfl, hBi⟩ := hrel
        rename World => w2
        obtain ⟨qc, _⟩ := qS hBi
        have c2 := (qc _ 3 cl).trans c
        have e20 := (qc _ _ hgl).trans e0
        have e21 := (qc _ _ hgl).trans e1
        have cl2 : lb < w2.heap.size := Nat.lt_of_lt_of_le cl hBi.size
        have gl2 : g < w2.heap.size := Nat.lt_of_lt_of_le hgl hBi.size
        by_cases hql : q < elen
        · obtain ⟨b, eb, hKb, hcc⟩ := he2 (show 0 < elen by omega)
          subst eb
          have hbl := klt b hKb
          have hc := hcc q hql
          have z0 := ((qS hBi).1 _ _ hbl).trans (hc 0 _ rfl)
          have z1 := ((qS hBi).1 _ _ hbl).trans (hc 1 _ rfl)
          have z2 := ((qS hBi).1 _ _ hbl).trans (hc 2 _ rfl)
          simp only [Nat.add_zero] at z0
          clear hcc hc qc
          have hq1 : (q : Int) < (elen : Int) := by omega
          have bl2 : b < w2.heap.size := Nat.lt_of_lt_of_le hbl hBi.size
          go_wp2_with fail
          go_quiet (fail)
          go_wp2_with fail
          go_roundw
          case rel => exact ⟨q + 1, by omega, by go_num, (by repeat first|exact br _|assumption|apply bd|apply bn|apply ba|refine bt ?_ (by assumption))⟩
          case measure => simp [intOf]; omega
        · have hqq : q = elen := by omega
          subst hqq
          clear qc
          go_wp2_with fail
          go_roundw
          case rel => exact ⟨k + 1, by omega, by go_num, hB.trans hBi⟩
          case measure => simp [intOf]; omega
    · have hkk : k = lm.length := by omega
      subst hkk
      clear hL
      have HB := hB
      go_wp2_with fail
      go_loopw [5] (fun i wr => ∃ k : Nat, k ≤ lp.length ∧ i = .int .i64 k ∧ Bw w wr) (fun i _ => lp.length - (intOf i).toNat)
      case atStart => exact ⟨0, Nat.zero_le _, rfl, HB⟩
      case round =>
        clear HB
        obtain ⟨k, hk, rfl, hB⟩ := hrel
        rename World => w1
        have hL := (qK HL).bw hB
        have c := qQ (o := 4) hL.root rfl
        have cl := (Array.getElem?_eq_some_iff.1 hL.root).1
        by_cases hlt : k < lp.length
        · obtain ⟨g, eg, hgl, e0, e1⟩ := ents_at hL.p k hlt
          obtain ⟨he, hel⟩ := hL.kp k hlt
          simp only [kY] at eg
          rw [eg] at c
          have hk1 : (k : Int) < (lp.length : Int) := by omega
          have hf := hL.few
          have klt := hL.klt
          clear hL
          generalize kV lp k = en at *
          obtain ⟨ea, elen, ecap, enn⟩ := en
          simp only at e0 e1 hel
          have he2 : 0 < elen → ∃ b, ea = some ⟨b, 0, none⟩ ∧ K b ∧ ∀ j, j < elen → ∀ f u, (xP enn)[f]? = some u → w1.cell? ⟨b, j * 5 + f, none⟩ = some u := fun h => EntOk.read (e := ⟨ea, elen, ecap, enn⟩) rfl he h
          clear he
          have Heg := qJ eg
          clear eg
          go_wp2_with fail
          go_loopw [6] (fun j wr => ∃ q : Nat, q ≤ elen ∧ j = .int .i64 q ∧ Bw w1 wr) (fun j _ => elen - (intOf j).toNat)
          case atStart => exact ⟨0, Nat.zero_le _, rfl, Bw.refl _⟩
          case round =>
            obtain ⟨q, hq, rfl, hBi⟩ := hrel
            rename World => w2
            obtain ⟨qc, _⟩ := qS hBi
            have c2 := (qc _ 4 cl).trans c
            have e20 := (qc _ _ hgl).trans e0
            have e21 := (qc _ _ hgl).trans e1
            have cl2 : lb < w2.heap.size := Nat.lt_of_lt_of_le cl hBi.size
            have gl2 : g < w2.heap.size := Nat.lt_of_lt_of_le hgl hBi.size
            by_cases hql : q < elen
            · obtain ⟨b, eb, hKb, hcc⟩ := he2 (show 0 < elen by omega)
              subst eb
              have hbl := klt b hKb
              have hc := hcc q hql
              have z0 := ((qS hBi).1 _ _ hbl).trans (hc 0 _ rfl)
              have z1 := ((qS hBi).1 _ _ hbl).trans (hc 1 _ rfl)
              have z2 := ((qS hBi).1 _ _ hbl).trans (hc 2 _ rfl)
              have z3 := ((qS hBi).1 _ _ hbl).trans (hc 3 _ rfl)
              have z4 := ((qS hBi).1 _ _ hbl).trans (hc 4 _ rfl)
              simp only [Nat.add_zero] at z0
              clear hcc hc qc
              have hq1 : (q : Int) < (elen : Int) := by omega
              have bl2 : b < w2.heap.size := Nat.lt_of_lt_of_le hbl hBi.size
              go_wp2_with fail
              go_quiet (fail)
              go_wp2_with fail
              go_roundw
              case rel => exact ⟨q + 1, by omega, by go_num, (by repeat first|exact br _|assumption|apply bd|apply bn|apply ba|refine bt ?_ (by assumption))⟩
              case measure => simp [intOf]; omega
            · have hqq : q = elen := by omega
              subst hqq
              clear qc
              go_wp2_with fail
              go_roundw
              case rel => exact ⟨k + 1, by omega, by go_num, hB.trans hBi⟩
              case measure => simp [intOf]; omega
        · have hkk : k = lp.length := by omega
          subst hkk
          clear hL
          have HB := hB
          go_wp2_with fail
          go_loopw [7] (fun i wr => ∃ k : Nat, k ≤ lt.length ∧ i = .int .i64 k ∧ Bw w wr) (fun i _ => lt.length - (intOf i).toNat)
          case atStart => exact ⟨0, Nat.zero_le _, rfl, HB⟩
          case round =>
            clear HB
            obtain ⟨k, hk, rfl, hB⟩ := hrel
            rename World => w1
            have hL := (qK HL).bw hB
            have c := qQ (o := 5) hL.root rfl
            have cl := (Array.getElem?_eq_some_iff.1 hL.root).1
            by_cases hlt : k < lt.length
            · obtain ⟨g, eg, hgl, e0, e1⟩ := ents_at hL.t k hlt
              obtain ⟨he, hel⟩ := hL.kt k hlt
              simp only [kY] at eg
              rw [eg] at c
              have hk1 : (k : Int) < (lt.length : Int) := by omega
              have hf := hL.few
              have klt := hL.klt
              clear hL
              generalize kV lt k = en at *
              obtain ⟨ea, elen, ecap, enn⟩ := en
              simp only at e0 e1 hel
              have he2 : 0 < elen → ∃ b, ea = some ⟨b, 0, none⟩ ∧ K b ∧ ∀ j, j < elen → ∀ f u, (xT enn)[f]? = some u → w1.cell? ⟨b, j * 2 + f, none⟩ = some u := fun h => EntOk.read (e := ⟨ea, elen, ecap, enn⟩) rfl he h
              clear he
              have Heg := qJ eg
              clear eg
              go_wp2_with fail
              go_loopw [8] (fun j wr => ∃ q : Nat, q ≤ elen ∧ j = .int .i64 q ∧ Bw w1 wr) (fun j _ => elen - (intOf j).toNat)
              case atStart => exact ⟨0, Nat.zero_le _, rfl, Bw.refl _⟩
              case round =>
                obtain ⟨q, hq, rfl, hBi⟩ := hrel
                rename World => w2
                obtain ⟨qc, _⟩ := qS hBi
                have c2 := (qc _ 5 cl).trans c
                have e20 := (qc _ _ hgl).trans e0
                have e21 := (qc _ _ hgl).trans e1
                have cl2 : lb < w2.heap.size := Nat.lt_of_lt_of_le cl hBi.size
                have gl2 : g < w2.heap.size := Nat.lt_of_lt_of_le hgl hBi.size
                by_cases hql : q < elen
                · obtain ⟨b, eb, hKb, hcc⟩ := he2 (show 0 < elen by omega)
                  subst eb
                  have hbl := klt b hKb
                  have hc := hcc q hql
                  have z0 := ((qS hBi).1 _ _ hbl).trans (hc 0 _ rfl)
                  have z1 := ((qS hBi).1 _ _ hbl).trans (hc 1 _ rfl)
                  simp only [Nat.add_zero] at z0
                  clear hcc hc qc
                  have hq1 : (q : Int) < (elen : Int) := by omega
                  have bl2 : b < w2.heap.size := Nat.lt_of_lt_of_le hbl hBi.size
                  go_wp2_with fail
                  go_quiet (fail)
                  go_wp2_with fail
                  go_roundw
                  case rel => exact ⟨q + 1, by omega, by go_num, (by repeat first|exact br _|assumption|apply bd|apply bn|apply ba|refine bt ?_ (by assumption))⟩
                  case measure => simp [intOf]; omega
                · have hqq : q = elen := by omega
                  subst hqq
                  clear qc
                  go_wp2_with fail
                  go_roundw
                  case rel => exact ⟨k + 1, by omega, by go_num, hB.trans hBi⟩
                  case measure => simp [intOf]; omega
            · have hkk : k = lt.length := by omega
              subst hkk
              clear hL
              have HB := hB
              go_wp2_with fail
              go_loopw [9] (fun i wr => ∃ k : Nat, k ≤ lr.length ∧ i = .int .i64 k ∧ Bw w wr) (fun i _ => lr.length - (intOf i).toNat)
              case atStart => exact ⟨0, Nat.zero_le _, rfl, HB⟩
              case round =>
                clear HB
                obtain ⟨k, hk, rfl, hB⟩ := hrel
                rename World => w1
                have hL := (qK HL).bw hB
                have c := qQ (o := 6) hL.root rfl
                have cl := (Array.getElem?_eq_some_iff.1 hL.root).1
                by_cases hlt : k < lr.length
                · obtain ⟨g, eg, hgl, e0, e1⟩ := ents_at hL.r k hlt
                  obtain ⟨he, hel⟩ := hL.kr k hlt
                  simp only [kY] at eg
                  rw [eg] at c
                  have hk1 : (k : Int) < (lr.length : Int) := by omega
                  have hf := hL.few
                  have klt := hL.klt
                  clear hL
                  generalize kV lr k = en at *
                  obtain ⟨ea, elen, ecap, enn⟩ := en
                  simp only at e0 e1 hel
                  have he2 : 0 < elen → ∃ b, ea = some ⟨b, 0, none⟩ ∧ K b ∧ ∀ j, j < elen → ∀ f u, (xR enn)[f]? = some u → w1.cell? ⟨b, j * 5 + f, none⟩ = some u := fun h => EntOk.read (e := ⟨ea, elen, ecap, enn⟩) rfl he h
                  clear he
                  have Heg := qJ eg
                  clear eg
                  go_wp2_with fail
                  go_loopw [10] (fun j wr => ∃ q : Nat, q ≤ elen ∧ j = .int .i64 q ∧ Bw w1 wr) (fun j _ => elen - (intOf j).toNat)
                  case atStart => exact ⟨0, Nat.zero_le _, rfl, Bw.refl _⟩
                  case round =>
                    obtain ⟨q, hq, rfl, hBi⟩ := hrel
                    rename World => w2
                    obtain ⟨qc, _⟩ := qS hBi
                    have c2 := (qc _ 6 cl).trans c
                    have e20 := (qc _ _ hgl).trans e0
                    have e21 := (qc _ _ hgl).trans e1
                    have cl2 : lb < w2.heap.size := Nat.lt_of_lt_of_le cl hBi.size
                    have gl2 : g < w2.heap.size := Nat.lt_of_lt_of_le hgl hBi.size
                    by_cases hql : q < elen
                    · obtain ⟨b, eb, hKb, hcc⟩ := he2 (show 0 < elen by omega)
                      subst eb
                      have hbl := klt b hKb
                      have hc := hcc q hql
                      have z0 := ((qS hBi).1 _ _ hbl).trans (hc 0 _ rfl)
                      have z1 := ((qS hBi).1 _ _ hbl).trans (hc 1 _ rfl)
                      have z2 := ((qS hBi).1 _ _ hbl).trans (hc 2 _ rfl)
                      have z3 := ((qS hBi).1 _ _ hbl).trans (hc 3 _ rfl)
                      have z4 := ((qS hBi).1 _ _ hbl).trans (hc 4 _ rfl)
                      simp only [Nat.add_zero] at z0
                      clear hcc hc qc
                      have hq1 : (q : Int) < (elen : Int) := by omega
                      have bl2 : b < w2.heap.size := Nat.lt_of_lt_of_le hbl hBi.size
                      go_wp2_with fail
                      go_quiet (fail)
                      go_wp2_with fail
                      go_roundw
                      case rel => exact ⟨q + 1, by omega, by go_num, (by repeat first|exact br _|assumption|apply bd|apply bn|apply ba|refine bt ?_ (by assumption))⟩
                      case measure => simp [intOf]; omega
                    · have hqq : q = elen := by omega
                      subst hqq
                      clear qc
                      go_wp2_with fail
                      go_roundw
                      case rel => exact ⟨k + 1, by omega, by go_num, hB.trans hBi⟩
                      case measure => simp [intOf]; omega
                · have hkk : k = lr.length := by omega
                  subst hkk
                  clear hL
                  have HB := hB
                  go_wp2_with fail
                  go_ret
                  exact ⟨rfl, HB⟩
end Go.Proofs.YtfemleimkbjehaaGreat
