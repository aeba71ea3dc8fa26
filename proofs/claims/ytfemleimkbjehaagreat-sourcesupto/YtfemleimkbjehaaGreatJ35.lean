import Derived.Test.YtfemleimkbjehaaGreatJ34
import Derived.Test.YtfemleimkbjehaaGreatRunO
namespace Go.Proofs.YtfemleimkbjehaaGreat
set_option linter.unusedVariables false
set_option linter.unusedSimpArgs false
open Go.RowKit

/-- A list that came out and was kept, with the number that its owner wrote over it. -/
structure Ent where
  a : Option Addr
  len : Nat
  cap : Nat
  n : Int
def Ent.cells (e : Ent) : List Value := [.slice e.a e.len e.cap, .int .i64 e.n]
def entn (l : List Ent) (k : Nat) : Ent := l.getD k ⟨none, 0, 0, 0⟩
def entCells (l : List Ent) : List Value := l.flatMap Ent.cells
def xM (n : Int) : List Value := [.int .i64 (-77), .int .i64 n, .int .i64 0]
def xP (n : Int) : List Value := [.int .i64 (-77), .bool false, .int .i64 n, .int .i64 0, .int .i64 0]
def xT (n : Int) : List Value := [.int .i64 (-77), .int .i64 n]
def xR (n : Int) : List Value := [.int .i64 (-77), .int .i64 0, .int .i64 n, .int .i64 0, .int .i64 0]
/-- A list that its owner wrote full. -/
def fullL (X : Int → List Value) (n : Int) (k : Nat) : List Value := (List.replicate k (X n)).flatten
theorem fullL_succ (X : Int → List Value) (n : Int) (k : Nat) : fullL X n (k + 1) = fullL X n k ++ X n := by
  unfold fullL
  rw [List.replicate_succ', List.flatten_append]
  simp
theorem fullL_get {X : Int → List Value} {n : Int} {sz : Nat} (hX : (X n).length = sz) : ∀ (k j f : Nat), j < k → f < sz → (fullL X n k)[j * sz + f]? = (X n)[f]? := by
  intro k
  induction k with
  | zero => intro j f h; omega
  | succ k ih =>
    intro j f hj hf
    have hl : (fullL X n k).length = k * sz := by simp [fullL, hX]
    rw [fullL_succ]
    by_cases e : j < k
    · have : j * sz + f < k * sz := by
        calc j * sz + f < j * sz + sz := by omega
          _ = (j + 1) * sz := by rw [Nat.add_mul]; omega
          _ ≤ k * sz := Nat.mul_le_mul_right _ e
      rw [List.getElem?_append_left (by rw [hl]; exact this)]
      exact ih j f e hf
    · have : j = k := by omega
      subst this
      rw [List.getElem?_append_right (by rw [hl]; omega), hl, show j * sz + f - j * sz = f by omega]
/-- A kept list still reads as its owner wrote it. -/
def EntOk (w : World) (K : Nat → Prop) (ty : TypeId) (X : Int → List Value) (sz : Nat) (e : Ent) : Prop := OwnsIn K w ty sz (.slice e.a e.len e.cap) e.len (fullL X e.n e.len)
theorem EntOk.read {w : World} {K : Nat → Prop} {ty : TypeId} {X : Int → List Value} {sz : Nat} {e : Ent} (hX : (X e.n).length = sz) (h : EntOk w K ty X sz e) (hl : 0 < e.len) : ∃ b, e.a = some ⟨b, 0, none⟩ ∧ K b ∧ ∀ j, j < e.len → ∀ f u, (X e.n)[f]? = some u → w.cell? ⟨b, j * sz + f, none⟩ = some u := by
  obtain ⟨g, eg, _, hc⟩ := ownsRow_at h.1 hl
  simp only [addrOf] at eg
  refine ⟨g, eg, h.2 g (by rw [eg]; rfl), fun j hj f u hu => hc _ _ ?_⟩
  have hf : f < sz := by rw [← hX]; exact (List.getElem?_eq_some_iff.1 hu).1
  rw [fullL_get hX _ j f hj hf]
  exact hu
def EntsOk (w : World) (K : Nat → Prop) (ty : TypeId) (X : Int → List Value) (sz : Nat) (l : List Ent) : Prop := ∀ i, i < l.length → EntOk w K ty X sz (entn l i) ∧ (entn l i).len ≤ 1000000000
theorem EntsOk.map {w w' : World} {K K' : Nat → Prop} {ty : TypeId} {X : Int → List Value} {sz : Nat} {l : List Ent} (h : EntsOk w K ty X sz l) (hf : ∀ (u : Value) (m : Nat) (ys : List Value), OwnsIn K w ty sz u m ys → OwnsIn K' w' ty sz u m ys) : EntsOk w' K' ty X sz l := fun i hi => ⟨hf _ _ _ (h i hi).1, (h i hi).2⟩
structure LX where
  m : Value
  p : Value
  t : Value
  r : Value
/-- The lists that were kept. -/
structure LL where
  m : List Ent
  p : List Ent
  t : List Ent
  r : List Ent
/-- The statement's own world: two runs, and the lists that came out. -/
structure LW (w : World) (K : Nat → Prop) (lb pb rb : Nat) (x : LX) (cnt : Int) (l : LL) : Prop where
  root : w.heap[lb]? = some (.cells #[.pointer (some ⟨pb, 0, none⟩), .pointer (some ⟨rb, 0, none⟩), .int .i64 cnt, x.m, x.p, x.t, x.r] 42 (0, 0))
  kroot : K lb
  klt : ∀ b, K b → b < w.heap.size
  m : OwnsIn K w 60 2 x.m l.m.length (entCells l.m)
  p : OwnsIn K w 65 2 x.p l.p.length (entCells l.p)
  t : OwnsIn K w 70 2 x.t l.t.length (entCells l.t)
  r : OwnsIn K w 75 2 x.r l.r.length (entCells l.r)
  km : EntsOk w K 62 xM 3 l.m
  kp : EntsOk w K 67 xP 5 l.p
  kt : EntsOk w K 72 xT 2 l.t
  kr : EntsOk w K 77 xR 5 l.r
  few : l.m.length ≤ 900000000 ∧ l.p.length ≤ 900000000 ∧ l.t.length ≤ 900000000 ∧ l.r.length ≤ 900000000
theorem LW.frame {w w' : World} {K : Nat → Prop} {lb pb rb : Nat} {x : LX} {cnt : Int} {l : LL} (h : LW w K lb pb rb x cnt l) (hz : w.heap.size ≤ w'.heap.size) (hf : ∀ b, K b → b < w.heap.size → w'.heap[b]? = w.heap[b]?) : LW w' K lb pb rb x cnt l :=
  ⟨(hf lb h.kroot (h.klt _ h.kroot)).trans h.root, h.kroot, fun b hb => Nat.lt_of_lt_of_le (h.klt b hb) hz, h.m.frame hf, h.p.frame hf, h.t.frame hf, h.r.frame hf, h.km.map fun _ _ _ h => h.frame hf, h.kp.map fun _ _ _ h => h.frame hf, h.kt.map fun _ _ _ h => h.frame hf, h.kr.map fun _ _ _ h => h.frame hf, h.few⟩
theorem LW.bw {w w' : World} {K : Nat → Prop} {lb pb rb : Nat} {x : LX} {cnt : Int} {l : LL} (h : LW w K lb pb rb x cnt l) (hb : Bw w w') : LW w' K lb pb rb x cnt l := h.frame hb.size fun b _ hl => Below.block hb b hl
theorem LW.other {w w' : World} {K T : Nat → Prop} {lb pb rb : Nat} {x : LX} {cnt : Int} {l : LL} (h : LW w K lb pb rb x cnt l) (hc : Chg T w w') (hd : ∀ b, K b → ¬ T b) : LW w' K lb pb rb x cnt l := h.frame hc.size fun b hb hl => hc.block b hl (hd b hb)
/-- The kept lists can be read. -/
theorem ents_at {K : Nat → Prop} {w : World} {ty : TypeId} {v : Value} {l : List Ent} (h : OwnsIn K w ty 2 v l.length (entCells l)) : ∀ i, i < l.length → ∃ g, addrOf v = some ⟨g, 0, none⟩ ∧ g < w.heap.size ∧ w.cell? ⟨g, i * 2, none⟩ = some (.slice (entn l i).a (entn l i).len (entn l i).cap) ∧ w.cell? ⟨g, i * 2 + 1, none⟩ = some (.int .i64 (entn l i).n) := by
  intro i hi
  obtain ⟨g, e, hl, hc⟩ := ownsRow_at h.1 (by omega)
  have q : ∀ f, f < 2 → ∀ u, (Ent.cells (entn l i))[f]? = some u → w.cell? ⟨g, i * 2 + f, none⟩ = some u := fun f hf u hu => hc _ _ ((flat_get (f := Ent.cells) (d := ⟨none, 0, 0, 0⟩) (fun _ => rfl) l i hi f hf).trans hu)
  exact ⟨g, e, hl, q 0 (by omega) _ rfl, q 1 (by omega) _ rfl⟩
end Go.Proofs.YtfemleimkbjehaaGreat
namespace Go.Proofs.YtfemleimkbjehaaGreat
set_option linter.unusedVariables false
set_option linter.unusedSimpArgs false
open Go.RowKit

set_option maxRecDepth 100000 in
set_option maxHeartbeats 8000000 in
/-- Every list that came out still reads as its owner wrote it. -/
theorem looks_any {K : Nat → Prop} {lb pb rb : Nat} {x : LX} {cnt : Int} {l : LL} (w : World) (hL : LW w K lb pb rb x cnt l) :
    Calls Tryz.prog 10 #[.pointer (some ⟨lb, 0, none⟩)] w fun e w' => e = .returned (.bool true) ∧ Bw w w' := by
  obtain ⟨xm, xp, xt, xr⟩ := x
  obtain ⟨lm, lp, lt, lr⟩ := l
  obtain ⟨ma, mc, hm⟩ : ∃ a c, xm = .slice a lm.length c := ⟨_, _, ownsRow_val hL.m.1⟩
  obtain ⟨pa, pc, hp⟩ : ∃ a c, xp = .slice a lp.length c := ⟨_, _, ownsRow_val hL.p.1⟩
  obtain ⟨ta, tc, ht⟩ : ∃ a c, xt = .slice a lt.length c := ⟨_, _, ownsRow_val hL.t.1⟩
  obtain ⟨ra, rc, hr⟩ : ∃ a c, xr = .slice a lr.length c := ⟨_, _, ownsRow_val hL.r.1⟩
  subst hm hp ht hr
  have HL := hide hL
  have HB := Bw.refl w
  clear hL
  go_enter Tryz.func10, Tryz.ntmps10
  go_wp2_with fail
  go_loopw [3] (fun i wr => ∃ k : Nat, k ≤ lm.length ∧ i = .int .i64 k ∧ Bw w wr) (fun i _ => lm.length - (intOf i).toNat)
  case atStart => exact ⟨0, Nat.zero_le _, rfl, HB⟩
  case round =>
    clear HB
    obtain ⟨k, hk, rfl, hB⟩ := hrel
    rename World => w1
    have hL := (unhide HL).bw hB
    have c := cell_of_block (o := 3) hL.root rfl
    have cl := (Array.getElem?_eq_some_iff.1 hL.root).1
    by_cases hlt : k < lm.length
    · obtain ⟨g, eg, hgl, e0, e1⟩ := ents_at hL.m k hlt
      obtain ⟨he, hel⟩ := hL.km k hlt
      simp only [addrOf] at eg
      rw [eg] at c
      have hk1 : (k : Int) < (lm.length : Int) := by omega
      have hf := hL.few
      have klt := hL.klt
      clear hL
      generalize entn lm k = en at *
      obtain ⟨ea, elen, ecap, enn⟩ := en
      simp only at e0 e1 hel
      have he2 : 0 < elen → ∃ b, ea = some ⟨b, 0, none⟩ ∧ K b ∧ ∀ j, j < elen → ∀ f u, (xM enn)[f]? = some u → w1.cell? ⟨b, j * 3 + f, none⟩ = some u := fun h => EntOk.read (e := ⟨ea, elen, ecap, enn⟩) rfl he h
      clear he
      have Heg := hide eg
      clear eg
      go_wp2_with fail
      go_loopw [4] (fun j wr => ∃ q : Nat, q ≤ elen ∧ j = .int .i64 q ∧ Bw w1 wr) (fun j _ => elen - (intOf j).toNat)
      case atStart => exact ⟨0, Nat.zero_le _, rfl, Bw.refl _⟩
      case round =>
        obtain ⟨q, hq, rfl, hBi⟩ := hrel
        rename World => w2
        obtain ⟨qc, _⟩ := bcell hBi
        have c2 := (qc _ 3 cl).trans c
        have e20 := (qc _ _ hgl).trans e0
        have e21 := (qc _ _ hgl).trans e1
        have cl2 : lb < w2.heap.size := Nat.lt_of_lt_of_le cl hBi.size
        have gl2 : g < w2.heap.size := Nat.lt_of_lt_of_le hgl hBi.size
        by_cases hql : q < elen
        · obtain ⟨b, eb, hKb, hcc⟩ := he2 (show 0 < elen by omega)
          subst eb
          have hbl := klt b hKb
          have hc := hcc q hql
          have z0 := ((bcell hBi).1 _ _ hbl).trans (hc 0 _ rfl)
          have z1 := ((bcell hBi).1 _ _ hbl).trans (hc 1 _ rfl)
          have z2 := ((bcell hBi).1 _ _ hbl).trans (hc 2 _ rfl)
          simp only [Nat.add_zero] at z0
          clear hcc hc qc
          have hq1 : (q : Int) < (elen : Int) := by omega
          have bl2 : b < w2.heap.size := Nat.lt_of_lt_of_le hbl hBi.size
          go_wp2_with fail
          go_quiet (fail)
          go_wp2_with fail
          go_roundw
          case rel => exact ⟨q + 1, by omega, by go_num, (by repeat (first | exact Bw.refl _ | assumption | refine Bw.drew ?_ | refine Bw.drewN ?_ _ | refine Bw.alloc ?_ _ | refine Bw.trans ?_ (by assumption)))⟩
          case measure => simp [intOf]; omega
        · have hqq : q = elen := by omega
          subst hqq
          clear qc
          go_wp2_with fail
          go_roundw
          case rel => exact ⟨k + 1, by omega, by go_num, hB.trans hBi⟩
          case measure => simp [intOf]; omega
    · have hkk : k = lm.length := by omega
      subst hkk
      clear hL
      have HB := hB
      go_wp2_with fail
      go_loopw [5] (fun i wr => ∃ k : Nat, k ≤ lp.length ∧ i = .int .i64 k ∧ Bw w wr) (fun i _ => lp.length - (intOf i).toNat)
      case atStart => exact ⟨0, Nat.zero_le _, rfl, HB⟩
      case round =>
        clear HB
        obtain ⟨k, hk, rfl, hB⟩ := hrel
        rename World => w1
        have hL := (unhide HL).bw hB
        have c := cell_of_block (o := 4) hL.root rfl
        have cl := (Array.getElem?_eq_some_iff.1 hL.root).1
        by_cases hlt : k < lp.length
        · obtain ⟨g, eg, hgl, e0, e1⟩ := ents_at hL.p k hlt
          obtain ⟨he, hel⟩ := hL.kp k hlt
          simp only [addrOf] at eg
          rw [eg] at c
          have hk1 : (k : Int) < (lp.length : Int) := by omega
          have hf := hL.few
          have klt := hL.klt
          clear hL
          generalize entn lp k = en at *
          obtain ⟨ea, elen, ecap, enn⟩ := en
          simp only at e0 e1 hel
          have he2 : 0 < elen → ∃ b, ea = some ⟨b, 0, none⟩ ∧ K b ∧ ∀ j, j < elen → ∀ f u, (xP enn)[f]? = some u → w1.cell? ⟨b, j * 5 + f, none⟩ = some u := fun h => EntOk.read (e := ⟨ea, elen, ecap, enn⟩) rfl he h
          clear he
          have Heg := hide eg
          clear eg
          go_wp2_with fail
          go_loopw [6] (fun j wr => ∃ q : Nat, q ≤ elen ∧ j = .int .i64 q ∧ Bw w1 wr) (fun j _ => elen - (intOf j).toNat)
          case atStart => exact ⟨0, Nat.zero_le _, rfl, Bw.refl _⟩
          case round =>
            obtain ⟨q, hq, rfl, hBi⟩ := hrel
            rename World => w2
            obtain ⟨qc, _⟩ := bcell hBi
            have c2 := (qc _ 4 cl).trans c
            have e20 := (qc _ _ hgl).trans e0
            have e21 := (qc _ _ hgl).trans e1
            have cl2 : lb < w2.heap.size := Nat.lt_of_lt_of_le cl hBi.size
            have gl2 : g < w2.heap.size := Nat.lt_of_lt_of_le hgl hBi.size
            by_cases hql : q < elen
            · obtain ⟨b, eb, hKb, hcc⟩ := he2 (show 0 < elen by omega)
              subst eb
              have hbl := klt b hKb
              have hc := hcc q hql
              have z0 := ((bcell hBi).1 _ _ hbl).trans (hc 0 _ rfl)
              have z1 := ((bcell hBi).1 _ _ hbl).trans (hc 1 _ rfl)
              have z2 := ((bcell hBi).1 _ _ hbl).trans (hc 2 _ rfl)
              have z3 := ((bcell hBi).1 _ _ hbl).trans (hc 3 _ rfl)
              have z4 := ((bcell hBi).1 _ _ hbl).trans (hc 4 _ rfl)
              simp only [Nat.add_zero] at z0
              clear hcc hc qc
              have hq1 : (q : Int) < (elen : Int) := by omega
              have bl2 : b < w2.heap.size := Nat.lt_of_lt_of_le hbl hBi.size
              go_wp2_with fail
              go_quiet (fail)
              go_wp2_with fail
              go_roundw
              case rel => exact ⟨q + 1, by omega, by go_num, (by repeat (first | exact Bw.refl _ | assumption | refine Bw.drew ?_ | refine Bw.drewN ?_ _ | refine Bw.alloc ?_ _ | refine Bw.trans ?_ (by assumption)))⟩
              case measure => simp [intOf]; omega
            · have hqq : q = elen := by omega
              subst hqq
              clear qc
              go_wp2_with fail
              go_roundw
              case rel => exact ⟨k + 1, by omega, by go_num, hB.trans hBi⟩
              case measure => simp [intOf]; omega
        · have hkk : k = lp.length := by omega
          subst hkk
          clear hL
          have HB := hB
          go_wp2_with fail
          go_loopw [7] (fun i wr => ∃ k : Nat, k ≤ lt.length ∧ i = .int .i64 k ∧ Bw w wr) (fun i _ => lt.length - (intOf i).toNat)
          case atStart => exact ⟨0, Nat.zero_le _, rfl, HB⟩
          case round =>
            clear HB
            obtain ⟨k, hk, rfl, hB⟩ := hrel
            rename World => w1
            have hL := (unhide HL).bw hB
            have c := cell_of_block (o := 5) hL.root rfl
            have cl := (Array.getElem?_eq_some_iff.1 hL.root).1
            by_cases hlt : k < lt.length
            · obtain ⟨g, eg, hgl, e0, e1⟩ := ents_at hL.t k hlt
              obtain ⟨he, hel⟩ := hL.kt k hlt
              simp only [addrOf] at eg
              rw [eg] at c
              have hk1 : (k : Int) < (lt.length : Int) := by omega
              have hf := hL.few
              have klt := hL.klt
              clear hL
              generalize entn lt k = en at *
              obtain ⟨ea, elen, ecap, enn⟩ := en
              simp only at e0 e1 hel
              have he2 : 0 < elen → ∃ b, ea = some ⟨b, 0, none⟩ ∧ K b ∧ ∀ j, j < elen → ∀ f u, (xT enn)[f]? = some u → w1.cell? ⟨b, j * 2 + f, none⟩ = some u := fun h => EntOk.read (e := ⟨ea, elen, ecap, enn⟩) rfl he h
              clear he
              have Heg := hide eg
              clear eg
              go_wp2_with fail
              go_loopw [8] (fun j wr => ∃ q : Nat, q ≤ elen ∧ j = .int .i64 q ∧ Bw w1 wr) (fun j _ => elen - (intOf j).toNat)
              case atStart => exact ⟨0, Nat.zero_le _, rfl, Bw.refl _⟩
              case round =>
                obtain ⟨q, hq, rfl, hBi⟩ := hrel
                rename World => w2
                obtain ⟨qc, _⟩ := bcell hBi
                have c2 := (qc _ 5 cl).trans c
                have e20 := (qc _ _ hgl).trans e0
                have e21 := (qc _ _ hgl).trans e1
                have cl2 : lb < w2.heap.size := Nat.lt_of_lt_of_le cl hBi.size
                have gl2 : g < w2.heap.size := Nat.lt_of_lt_of_le hgl hBi.size
                by_cases hql : q < elen
                · obtain ⟨b, eb, hKb, hcc⟩ := he2 (show 0 < elen by omega)
                  subst eb
                  have hbl := klt b hKb
                  have hc := hcc q hql
                  have z0 := ((bcell hBi).1 _ _ hbl).trans (hc 0 _ rfl)
                  have z1 := ((bcell hBi).1 _ _ hbl).trans (hc 1 _ rfl)
                  simp only [Nat.add_zero] at z0
                  clear hcc hc qc
                  have hq1 : (q : Int) < (elen : Int) := by omega
                  have bl2 : b < w2.heap.size := Nat.lt_of_lt_of_le hbl hBi.size
                  go_wp2_with fail
                  go_quiet (fail)
                  go_wp2_with fail
                  go_roundw
                  case rel => exact ⟨q + 1, by omega, by go_num, (by repeat (first | exact Bw.refl _ | assumption | refine Bw.drew ?_ | refine Bw.drewN ?_ _ | refine Bw.alloc ?_ _ | refine Bw.trans ?_ (by assumption)))⟩
                  case measure => simp [intOf]; omega
                · have hqq : q = elen := by omega
                  subst hqq
                  clear qc
                  go_wp2_with fail
                  go_roundw
                  case rel => exact ⟨k + 1, by omega, by go_num, hB.trans hBi⟩
                  case measure => simp [intOf]; omega
            · have hkk : k = lt.length := by omega
              subst hkk
              clear hL
              have HB := hB
              go_wp2_with fail
              go_loopw [9] (fun i wr => ∃ k : Nat, k ≤ lr.length ∧ i = .int .i64 k ∧ Bw w wr) (fun i _ => lr.length - (intOf i).toNat)
              case atStart => exact ⟨0, Nat.zero_le _, rfl, HB⟩
              case round =>
                clear HB
                obtain ⟨k, hk, rfl, hB⟩ := hrel
                rename World => w1
                have hL := (unhide HL).bw hB
                have c := cell_of_block (o := 6) hL.root rfl
                have cl := (Array.getElem?_eq_some_iff.1 hL.root).1
                by_cases hlt : k < lr.length
                · obtain ⟨g, eg, hgl, e0, e1⟩ := ents_at hL.r k hlt
                  obtain ⟨he, hel⟩ := hL.kr k hlt
                  simp only [addrOf] at eg
                  rw [eg] at c
                  have hk1 : (k : Int) < (lr.length : Int) := by omega
                  have hf := hL.few
                  have klt := hL.klt
                  clear hL
                  generalize entn lr k = en at *
                  obtain ⟨ea, elen, ecap, enn⟩ := en
                  simp only at e0 e1 hel
                  have he2 : 0 < elen → ∃ b, ea = some ⟨b, 0, none⟩ ∧ K b ∧ ∀ j, j < elen → ∀ f u, (xR enn)[f]? = some u → w1.cell? ⟨b, j * 5 + f, none⟩ = some u := fun h => EntOk.read (e := ⟨ea, elen, ecap, enn⟩) rfl he h
                  clear he
                  have Heg := hide eg
                  clear eg
                  go_wp2_with fail
                  go_loopw [10] (fun j wr => ∃ q : Nat, q ≤ elen ∧ j = .int .i64 q ∧ Bw w1 wr) (fun j _ => elen - (intOf j).toNat)
                  case atStart => exact ⟨0, Nat.zero_le _, rfl, Bw.refl _⟩
                  case round =>
                    obtain ⟨q, hq, rfl, hBi⟩ := hrel
                    rename World => w2
                    obtain ⟨qc, _⟩ := bcell hBi
                    have c2 := (qc _ 6 cl).trans c
                    have e20 := (qc _ _ hgl).trans e0
                    have e21 := (qc _ _ hgl).trans e1
                    have cl2 : lb < w2.heap.size := Nat.lt_of_lt_of_le cl hBi.size
                    have gl2 : g < w2.heap.size := Nat.lt_of_lt_of_le hgl hBi.size
                    by_cases hql : q < elen
                    · obtain ⟨b, eb, hKb, hcc⟩ := he2 (show 0 < elen by omega)
                      subst eb
                      have hbl := klt b hKb
                      have hc := hcc q hql
                      have z0 := ((bcell hBi).1 _ _ hbl).trans (hc 0 _ rfl)
                      have z1 := ((bcell hBi).1 _ _ hbl).trans (hc 1 _ rfl)
                      have z2 := ((bcell hBi).1 _ _ hbl).trans (hc 2 _ rfl)
                      have z3 := ((bcell hBi).1 _ _ hbl).trans (hc 3 _ rfl)
                      have z4 := ((bcell hBi).1 _ _ hbl).trans (hc 4 _ rfl)
                      simp only [Nat.add_zero] at z0
                      clear hcc hc qc
                      have hq1 : (q : Int) < (elen : Int) := by omega
                      have bl2 : b < w2.heap.size := Nat.lt_of_lt_of_le hbl hBi.size
                      go_wp2_with fail
                      go_quiet (fail)
                      go_wp2_with fail
                      go_roundw
                      case rel => exact ⟨q + 1, by omega, by go_num, (by repeat (first | exact Bw.refl _ | assumption | refine Bw.drew ?_ | refine Bw.drewN ?_ _ | refine Bw.alloc ?_ _ | refine Bw.trans ?_ (by assumption)))⟩
                      case measure => simp [intOf]; omega
                    · have hqq : q = elen := by omega
                      subst hqq
                      clear qc
                      go_wp2_with fail
                      go_roundw
                      case rel => exact ⟨k + 1, by omega, by go_num, hB.trans hBi⟩
                      case measure => simp [intOf]; omega
                · have hkk : k = lr.length := by omega
                  subst hkk
                  clear hL
                  have HB := hB
                  go_wp2_with fail
                  go_ret
                  exact ⟨rfl, HB⟩
end Go.Proofs.YtfemleimkbjehaaGreat
