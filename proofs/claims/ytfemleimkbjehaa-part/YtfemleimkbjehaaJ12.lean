import Derived.Test.YtfemleimkbjehaaJ11
import Derived.Test.YtfemleimkbjehaaJ2
set_option maxRecDepth 1000000
set_option maxHeartbeats 40000000
set_option linter.unusedVariables false
set_option linter.unusedSimpArgs false
namespace Go.Proofs.Ytfemleimkbjehaa
open Go.RowKit
structure PSt where
  ep : Nat → Nat → Int
  cl : Nat → Nat → Bool
  wt : Nat → Nat → List Gv
  lb : Nat → Nat → List Gv
  tl : Nat → Nat → Nat → Value
  tb : Nat → Nat → Int
  wy : Nat → Nat → List (List Pt)
  gv : Int
  rc : List Nd
structure PX where
  rarr : Array Value
  vn : Value
  vd : Value
  wb : Nat
  wc : Nat
  warr : Array Value
  vr : Value
def WayIn (S : Nat → Prop) (w : World) (v : Value) (l : List (List Pt)) : Prop :=
  ∃ vs : List Value, rowO w 183 v l.length vs ∧ (∀ b, v.ownBlock = some b → S b) ∧ ∀ k, k < l.length → ∃ u, vs[k]? = some u ∧ OwnsIn S w 194 5 u (l.getD k []).length (qG (l.getD k []))
structure PRow (w : World) (S : Nat → Prop) (warr : Array Value) (L W : Nat) (st : PSt) : Prop where
  size : W * 3684 ≤ warr.size
  src : ∀ i n, i < W → n < L → warr[i * 3684 + n * 2]? = some (.int .i64 (st.ep i n)) ∧ warr[i * 3684 + n * 2 + 1]? = some (.bool (st.cl i n))
  wait : ∀ i n, i < W → n < L → ∃ v, warr[i * 3684 + 16 + n]? = some v ∧ OwnsIn S w 117 3 v (st.wt i n).length (qB (st.wt i n))
  letb : ∀ i n, i < W → n < L → ∃ v, warr[i * 3684 + 24 + n]? = some v ∧ OwnsIn S w 117 3 v (st.lb i n).length (qB (st.lb i n))
  tal : ∀ i n, i < W → n < L → ∀ k, k < 408 → warr[i * 3684 + 32 + n * 408 + k]? = some (st.tl i n k)
  bel : ∀ i, i < W → ∀ k, k < 384 → warr[i * 3684 + 3296 + k]? = some (.int .i64 (st.tb i k))
  way : ∀ i j, i < W → j < 4 → ∃ v, warr[i * 3684 + 3680 + j]? = some v ∧ WayIn S w v (st.wy i j)
  own : ∀ (p b : Nat) (v : Value), p < W * 3684 → warr[p]? = some v → v.ownBlock = some b → S b
  inj : ∀ (p q b : Nat) (v u : Value), p < W * 3684 → q < W * 3684 → warr[p]? = some v → warr[q]? = some u → v.ownBlock = some b → u.ownBlock = some b → p = q
structure POwn (w : World) (S : Nat → Prop) (pb : Nat) (x : PX) (ns : List Nd) (R W : Nat) (D : Nat → Nat → Int) (st : PSt) : Prop where
  root : w.heap[pb]? = some (.cells x.rarr 106 (0, 0))
  r0 : x.rarr[0]? = some x.vn
  r1 : x.rarr[1]? = some (.int .i64 (R : Int))
  r2 : x.rarr[2]? = some x.vd
  r3 : x.rarr[3]? = some (.slice (some ⟨x.wb, 0, none⟩) W x.wc)
  r4 : x.rarr[4]? = some (.int .i64 st.gv)
  r5 : x.rarr[5]? = some x.vr
  work : w.heap[x.wb]? = some (.cells x.warr 162 (0, 0))
  sroot : S pb
  swork : S x.wb
  slt : ∀ b, S b → b < w.heap.size
  nodes : OwnsIn S w 32 5 x.vn ns.length (qM ns)
  dist : TabIn S w x.vd ns.length ns.length D
  recs : OwnsIn S w 110 5 x.vr st.rc.length (qM st.rc)
  row : PRow w S x.warr ns.length W st
  small : ns.length ≤ 8 ∧ R ≤ 4 ∧ W ≤ 4 ∧ 1 ≤ W ∧ 1 ≤ R ∧ 1 ≤ ns.length
  few : (∀ i n, (st.wt i n).length ≤ 100000000 ∧ (st.lb i n).length ≤ 100000000 ∧ (st.wy i n).length ≤ 100000000) ∧ st.rc.length ≤ 100000000
theorem WayIn.map {w w' : World} {S S' : Nat → Prop} {v : Value} {l : List (List Pt)} (h : WayIn S w v l) (hS : ∀ b, S b → S' b) (hf : ∀ b cur, v.ownBlock = some b → w.heap[b]? = some (.cells cur 183 (0, 0)) → w'.heap[b]? = w.heap[b]?) (hp : ∀ (u : Value) (m : Nat) (ys : List Value), OwnsIn S w 194 5 u m ys → OwnsIn S' w' 194 5 u m ys) : WayIn S' w' v l := by
  obtain ⟨vs, h1, h2, h3⟩ := h
  refine ⟨vs, h1.frame (fun b hb => by obtain ⟨cur, hc⟩ := h1.blk hb; exact hf b cur hb hc), fun b hb => hS b (h2 b hb), fun k hk => ?_⟩
  obtain ⟨u, e, h4⟩ := h3 k hk
  exact ⟨u, e, hp _ _ _ h4⟩
theorem PRow.map {w w' : World} {S S' : Nat → Prop} {warr : Array Value} {L W : Nat} {st : PSt} (h : PRow w S warr L W st) (hS : ∀ b, S b → S' b) (hf : ∀ (ty : TypeId) (sz : Nat) (u : Value) (m : Nat) (ys : List Value), ty = 117 ∨ ty = 194 → OwnsIn S w ty sz u m ys → OwnsIn S' w' ty sz u m ys) (hc : ∀ b cur, S b → w.heap[b]? = some (.cells cur 183 (0, 0)) → w'.heap[b]? = w.heap[b]?) : PRow w' S' warr L W st := by
  refine ⟨h.size, h.src, fun i n hi hn => ?_, fun i n hi hn => ?_, h.tal, h.bel, fun i j hi hj => ?_, fun p b v h0 h1 h2 => hS b (h.own p b v h0 h1 h2), h.inj⟩
  · obtain ⟨v, e, h1⟩ := h.wait i n hi hn
    exact ⟨v, e, hf _ _ _ _ _ (.inl rfl) h1⟩
  · obtain ⟨v, e, h1⟩ := h.letb i n hi hn
    exact ⟨v, e, hf _ _ _ _ _ (.inl rfl) h1⟩
  · obtain ⟨v, e, h1⟩ := h.way i j hi hj
    refine ⟨v, e, h1.map hS (fun b cur hb hcur => ?_) fun _ _ _ h => hf _ _ _ _ _ (.inr rfl) h⟩
    obtain ⟨vs, _, h2, _⟩ := h1
    exact hc b cur (h2 b hb) hcur
theorem POwn.frame {w w' : World} {S : Nat → Prop} {pb : Nat} {x : PX} {ns : List Nd} {R W : Nat} {D : Nat → Nat → Int} {st : PSt} (h : POwn w S pb x ns R W D st) (hz : w.heap.size ≤ w'.heap.size) (hf : ∀ b, S b → b < w.heap.size → w'.heap[b]? = w.heap[b]?) : POwn w' S pb x ns R W D st :=
  ⟨(hf pb h.sroot (h.slt pb h.sroot)).trans h.root, h.r0, h.r1, h.r2, h.r3, h.r4, h.r5, (hf _ h.swork (h.slt _ h.swork)).trans h.work, h.sroot, h.swork, fun b hb => Nat.lt_of_lt_of_le (h.slt b hb) hz, h.nodes.frame hf, h.dist.frame hf, h.recs.frame hf, h.row.map (fun _ h => h) (fun _ _ _ _ _ _ h => h.frame hf) (fun b cur hb hc => hf b hb (Array.getElem?_eq_some_iff.1 hc).1), h.small, h.few⟩
theorem POwn.bw {w w' : World} {S : Nat → Prop} {pb : Nat} {x : PX} {ns : List Nd} {R W : Nat} {D : Nat → Nat → Int} {st : PSt} (h : POwn w S pb x ns R W D st) (hb : Bw w w') : POwn w' S pb x ns R W D st := h.frame hb.size fun b _ hl => Below.block hb b hl
theorem POwn.other {w w' : World} {S T : Nat → Prop} {pb : Nat} {x : PX} {ns : List Nd} {R W : Nat} {D : Nat → Nat → Int} {st : PSt} (h : POwn w S pb x ns R W D st) (hc : Chg T w w') (hd : ∀ b, S b → ¬ T b) : POwn w' S pb x ns R W D st := h.frame hc.size fun b hb hl => hc.block b hl (hd b hb)
def POwn.After (w w' : World) (S : Nat → Prop) (pb : Nat) (ns : List Nd) (R W : Nat) (D : Nat → Nat → Int) (st : PSt) : Prop :=
  ∃ S' x', POwn w' S' pb x' ns R W D st ∧ Chg S w w' ∧ ∀ b, S' b → S b ∨ w.heap.size ≤ b
theorem POwn.after_same {w : World} {S : Nat → Prop} {pb : Nat} {x : PX} {ns : List Nd} {R W : Nat} {D : Nat → Nat → Int} {st : PSt} (h : POwn w S pb x ns R W D st) : POwn.After w w S pb ns R W D st := ⟨S, x, h, Chg.refl _ _, fun _ hb => .inl hb⟩
theorem POwn.ns {w : World} {S : Nat → Prop} {pb : Nat} {x : PX} {ns : List Nd} {R W : Nat} {D : Nat → Nat → Int} {st : PSt} (h : POwn w S pb x ns R W D st) : ∃ na nc, x.vn = .slice na ns.length nc ∧ NodesAt w na ns :=
  ⟨_, _, qW h.nodes.1, bK h.nodes.1⟩
def mT (W : Nat) (w : Int) : Bool := decide (0 ≤ w) && decide (w < W)
theorem isWk_iff {W : Nat} {w : Int} : mT W w = true ↔ ∃ i : Nat, w = i ∧ i < W := by
  unfold mT
  simp only [Bool.and_eq_true, decide_eq_true_eq]
  constructor
  · rintro ⟨h1, h2⟩
    exact ⟨w.toNat, by omega, by omega⟩
  · rintro ⟨i, rfl, h⟩
    omega
set_option maxRecDepth 100000 in
set_option maxHeartbeats 2000000 in
theorem hJ {S : Nat → Prop} {pb : Nat} {x : PX} {ns : List Nd} {R W : Nat} {D : Nat → Nat → Int} {st : PSt} (wk : Int) (w : World) (hO : POwn w S pb x ns R W D st) :
    Calls Try.prog 86 #[.pointer (some ⟨pb, 0, none⟩), .int .i64 wk] w fun e w' => e = .returned (.bool (mT W wk)) ∧ w' = w := by
  have c3 := qQ (o := 3) hO.root hO.r3
  have lt0 := hO.slt _ hO.sroot
  clear hO
  unfold mT
  cases h1 : decide (0 ≤ wk) with
  | false =>
    go_enter Try.func86, Try.ntmps86
    go_wp2_with fail
    go_ret
    exact ⟨rfl, rfl⟩
  | true =>
    go_enter Try.func86, Try.ntmps86
    go_wp2_with fail
    go_ret
    exact ⟨rfl, rfl⟩
def jP (ns : List Nd) (W : Nat) (cl : Nat → Nat → Bool) (w n : Int) : Int := if mT W w && (jQ ns.length n && ((qV ns n.toNat).kind == 0)) then (if cl w.toNat n.toNat then 4 else 0) else 3
set_option maxRecDepth 100000 in
set_option maxHeartbeats 2000000 in
theorem psrc_any {S : Nat → Prop} {pb : Nat} {x : PX} {ns : List Nd} {R W : Nat} {D : Nat → Nat → Int} {st : PSt} (wk n : Int) (w : World) (hO : POwn w S pb x ns R W D st) :
    Calls Try.prog 112 #[.pointer (some ⟨pb, 0, none⟩), .int .i64 wk, .int .i64 n] w fun e w' => e = .returned (.int .i64 (jP ns W st.cl wk n)) ∧ Bw w w' := by
  have Hw := qJ (fun w' (h : Bw w w') => hJ wk w' (hO.bw h))
  obtain ⟨na, nc, hvn, hnd⟩ := hO.ns
  have Hk := qJ (fun w' (h : Bw w w') => fX ns na nc (R : Int) n 0 w' (hnd.below h) (by have := hO.small; unfold maxLen; omega))
  have c0 := qQ (o := 0) hO.root (hvn ▸ hO.r0)
  have c1 := qQ (o := 1) hO.root hO.r1
  have lt0 := hO.slt _ hO.sroot
  have HE : Hid (jP ns W st.cl wk n = if mT W wk && (jQ ns.length n && ((qV ns n.toNat).kind == 0)) then (if st.cl wk.toNat n.toNat then 4 else 0) else 3) := qJ rfl
  cases hk1 : mT W wk with
  | false =>
    have He : Hid (jP ns W st.cl wk n = 3) := qJ (by rw [qK HE, hk1]; rfl)
    rw [hk1] at Hw
    clear hO hnd hk1
    go_enter Try.func112, Try.ntmps112
    go_wp2_with (go_at_call 86; refine ((qK Hw) _ (by repeat first|exact br _|assumption|apply bd|apply bn|apply ba|refine bt ?_ (by assumption))).mono ?_; rintro e w' ⟨rfl, rfl⟩)
    go_ret
    exact ⟨kN (qK He).symm, (by repeat first|exact br _|assumption|apply bd|apply bn|apply ba|refine bt ?_ (by assumption))⟩
  | true =>
    rw [hk1] at Hw
    cases hk2 : (jQ ns.length n && ((qV ns n.toNat).kind == 0)) with
    | false =>
      have He : Hid (jP ns W st.cl wk n = 3) := qJ (by rw [qK HE, hk1, hk2]; rfl)
      rw [hk2] at Hk
      clear hO hnd hk1 hk2
      go_enter Try.func112, Try.ntmps112
      go_wp2_with (first | (go_at_call 86; refine ((qK Hw) _ (by repeat first|exact br _|assumption|apply bd|apply bn|apply ba|refine bt ?_ (by assumption))).mono ?_; rintro e w' ⟨rfl, rfl⟩) | (go_at_call 129; refine ((qK Hk) _ (by repeat first|exact br _|assumption|apply bd|apply bn|apply ba|refine bt ?_ (by assumption))).mono ?_; rintro e w2 ⟨rfl, hbl⟩))
      go_ret
      exact ⟨kN (qK He).symm, (by repeat first|exact br _|assumption|apply bd|apply bn|apply ba|refine bt ?_ (by assumption))⟩
    | true =>
      obtain ⟨i, rfl, hi⟩ := isWk_iff.1 hk1
      have hk3 := hk2
      simp only [Bool.and_eq_true] at hk3
      obtain ⟨b1, b2⟩ := isNodeB_iff.1 hk3.1
      obtain ⟨m, rfl⟩ := Int.eq_ofNat_of_zero_le b1
      have hm : m < ns.length := by omega
      have h8 := hO.small
      have He : Hid (jP ns W st.cl (i : Int) (m : Int) = if st.cl i m then 4 else 0) := qJ (by rw [qK HE, hk1, hk2]; simp)
      rw [hk2] at Hk
      have Hc2 := qJ (fun (w' : World) (h : Bw w w') => qQ (o := i * 3684 + m * 2 + 1) (hO.bw h).work (hO.row.src i m hi hm).2)
      have Hc3 := qJ (fun (w' : World) (h : Bw w w') => qQ (o := 3) (hO.bw h).root hO.r3)
      have Hlt := qJ (fun (w' : World) (h : Bw w w') => (hO.bw h).slt _ hO.swork)
      have Hlp := qJ (fun (w' : World) (h : Bw w w') => (hO.bw h).slt _ hO.sroot)
      have hi1 : (i : Int) < (W : Int) := by omega
      have hm1 : (m : Int) < 8 := by omega
      clear hO hnd hk1 hk2 hk3 b1 b2
      cases hcl : st.cl i m with
      | false =>
        rw [hcl] at He Hc2
        go_enter Try.func112, Try.ntmps112
        go_wp2_with (first | (go_at_call 86; refine ((qK Hw) _ (by repeat first|exact br _|assumption|apply bd|apply bn|apply ba|refine bt ?_ (by assumption))).mono ?_; rintro e w' ⟨rfl, rfl⟩) | (go_at_call 129; refine ((qK Hk) _ (by repeat first|exact br _|assumption|apply bd|apply bn|apply ba|refine bt ?_ (by assumption))).mono ?_; rintro e w2 ⟨rfl, hbl⟩; have q1 := (qK Hc2) w2 hbl; have q2 := (qK Hc3) w2 hbl; have q3 := (qK Hlt) w2 hbl; have q4 := (qK Hlp) w2 hbl))
        go_ret
        exact ⟨kN (qK He).symm, (by repeat first|exact br _|assumption|apply bd|apply bn|apply ba|refine bt ?_ (by assumption))⟩
      | true =>
        rw [hcl] at He Hc2
        go_enter Try.func112, Try.ntmps112
        go_wp2_with (first | (go_at_call 86; refine ((qK Hw) _ (by repeat first|exact br _|assumption|apply bd|apply bn|apply ba|refine bt ?_ (by assumption))).mono ?_; rintro e w' ⟨rfl, rfl⟩) | (go_at_call 129; refine ((qK Hk) _ (by repeat first|exact br _|assumption|apply bd|apply bn|apply ba|refine bt ?_ (by assumption))).mono ?_; rintro e w2 ⟨rfl, hbl⟩; have q1 := (qK Hc2) w2 hbl; have q2 := (qK Hc3) w2 hbl; have q3 := (qK Hlt) w2 hbl; have q4 := (qK Hlp) w2 hbl))
        go_ret
        exact ⟨kN (qK He).symm, (by repeat first|exact br _|assumption|apply bd|apply bn|apply ba|refine bt ?_ (by assumption))⟩
set_option maxRecDepth 100000 in
set_option maxHeartbeats 2000000 in
theorem tX {S : Nat → Prop} {pb : Nat} {x : PX} {ns : List Nd} {R W : Nat} {D : Nat → Nat → Int} {st : PSt} (i m : Nat) (w : World) (hO : POwn w S pb x ns R W D st) (hi : i < W) (hm : m < ns.length) :
    Calls Try.prog 113 #[.pointer (some ⟨pb, 0, none⟩), .int .i64 (i : Int), .int .i64 (m : Int)] w fun e w' => e = .returned (.agg #[.int .i64 (st.ep i m), .int .i64 0]) ∧ Bw w w' := by
  have c3 := qQ (o := 3) hO.root hO.r3
  have c4 := qQ (o := i * 3684 + m * 2) hO.work (hO.row.src i m hi hm).1
  have lt0 := hO.slt _ hO.sroot
  have lt1 := hO.slt _ hO.swork
  have h8 := hO.small
  have hi1 : (i : Int) < (W : Int) := by omega
  have hm1 : (m : Int) < 8 := by omega
  clear hO
  go_enter Try.func113, Try.ntmps113
  go_wp2_with fail
  refine bodyPost_ret (v := .agg #[.int .i64 (st.ep i m), .int .i64 0]) (by simp [results, Try.results113, go_sem]) rfl ⟨rfl, ?_⟩
  exact (by repeat first|exact br _|assumption|apply bd|apply bn|apply ba|refine bt ?_ (by assumption))
set_option maxRecDepth 100000 in
set_option maxHeartbeats 2000000 in
theorem pin_any (n e s c : Int) (w : World) : Calls Try.prog 140 #[.int .i64 n, .agg #[.int .i64 e, .int .i64 s], .int .i64 c] w fun en w' => en = .returned (Pt.val ⟨n, false, e, s, c⟩) ∧ Bw w w' := by
  go_enter Try.func140, Try.ntmps140
  go_wp2_with fail
  refine bodyPost_ret (v := Pt.val ⟨n, false, e, s, c⟩) (by simp [results, Try.results140, go_sem, Pt.val]) rfl ⟨rfl, ?_⟩
  exact (by repeat first|exact br _|assumption|apply bd|apply bn|apply ba|refine bt ?_ (by assumption))
set_option maxRecDepth 100000 in
set_option maxHeartbeats 2000000 in
theorem mM (n e s c : Int) (w : World) : Calls Try.prog 137 #[.int .i64 n, .agg #[.int .i64 e, .int .i64 s], .int .i64 c] w fun en w' => en = .returned (Pt.val ⟨n, true, e, s, c⟩) ∧ Bw w w' := by
  go_enter Try.func137, Try.ntmps137
  go_wp2_with fail
  refine bodyPost_ret (v := Pt.val ⟨n, true, e, s, c⟩) (by simp [results, Try.results137, go_sem, Pt.val]) rfl ⟨rfl, ?_⟩
  exact (by repeat first|exact br _|assumption|apply bd|apply bn|apply ba|refine bt ?_ (by assumption))
theorem yU (w : World) (A B : Obj) : ((w.alloc A).alloc B).heap[w.heap.size]? = some A ∧ ((w.alloc A).alloc B).heap[w.heap.size + 1]? = some B ∧ Bw w ((w.alloc A).alloc B) := by
  refine ⟨(Below.block (show Bw (w.alloc A) _ from (by repeat first|exact br _|assumption|apply bd|apply bn|apply ba|refine bt ?_ (by assumption))) _ (by simp)).trans (heap_alloc_new w _), ?_, (by repeat first|exact br _|assumption|apply bd|apply bn|apply ba|refine bt ?_ (by assumption))⟩
  rw [show w.heap.size + 1 = (w.alloc A).heap.size by simp]; exact heap_alloc_new _ _
theorem CellsAt.below {w w' : World} {ad : Option Addr} {m : Nat} {news : List Value} (h : CellsAt w ad m news) (hb : Bw w w') : CellsAt w' ad m news := by
  intro hm
  obtain ⟨g, off, e, hc⟩ := h hm
  refine ⟨g, off, e, fun j u hj => ?_⟩
  have h1 := hc j u hj
  have hlt : g < w.heap.size := by
    rcases Nat.lt_or_ge g w.heap.size with h | h
    · exact h
    · rw [World.cell?, Array.getElem?_eq_none (by simpa using h)] at h1; simp at h1
  exact ((qX hb).1 _ _ hlt).trans h1
set_option maxRecDepth 100000 in
set_option maxHeartbeats 2000000 in
theorem pchangeOf_any (ps : List Pt) (pa : Option Addr) (pc : Nat) (w : World) (hps : CellsAt w pa ps.length (qG ps)) (hl : ps.length ≤ 1000) :
    Calls Try.prog 141 #[.slice pa ps.length pc] w fun en w' => ∃ v, en = .returned (.agg #[v]) ∧ OwnP w w' v ps ∧ Bw w w' := by
  obtain ⟨w0, hw0⟩ : ∃ w0, (w.alloc (.cells #[.slice none 0 0] 183)).alloc (.cells #[.slice none 0 0] 183) = w0 := ⟨_, rfl⟩
  have hA := yU w (.cells #[.slice none 0 0] 183) (.cells #[.slice none 0 0] 183)
  rw [hw0] at hA
  obtain ⟨hc0, hv0, hB0⟩ := hA
  have a0 := qQ (o := 0) hv0 rfl
  have al := (Array.getElem?_eq_some_iff.1 hv0).1
  have hps0 : CellsAt w0 pa ps.length (qG ps) := hps.below hB0
  go_enter Try.func141, Try.ntmps141
  go_wp2_with (at_builtin; refine appG w0 rfl _ _ _ 194 rfl _ 5 40 Try.infoPoint Try.underlying97 rfl (by decide) w.heap.size (.slice none 0 0) 0 [] rfl (World.ownsRow_nil _ _ _ _) _ ps.length _ (qG ps) rfl (xD ps) hps0 (fH ps) (by omega) (by omega) (Bw.size hB0) ?_; intro v1 w2 hown2 hgr2 hl2; have hB2 := gP hgr2; rw [Nat.zero_add, List.nil_append] at hown2; have hb2 := (Below.block hB2 _ (Array.getElem?_eq_some_iff.1 hv0).1).trans hv0; have e0 := qQ (o := 0) hb2 rfl; have ef := qZ (o := 0) hb2; have el := (Array.getElem?_eq_some_iff.1 hb2).1; have hcb2 := (Below.block hB2 _ (Array.getElem?_eq_some_iff.1 hc0).1).trans hc0; have f0 := qQ (o := 0) hcb2 rfl; have ff := qZ (o := 0) hcb2; have fl := (Array.getElem?_eq_some_iff.1 hcb2).1; obtain ⟨va, vc, hve⟩ : ∃ va vc, v1 = .slice va ps.length vc := ⟨_, _, qW hown2⟩; subst hve; have hdj : ¬ w.heap.size = w.heap.size + 1 := (by omega); have hcs := qJ (qY (k := 0) (v := .slice va ps.length vc) (show (w2.setCell ⟨w.heap.size + 1, 0, none⟩ (.slice va ps.length vc)).heap[w.heap.size]? = _ from (Below.heap_setCell w2 ⟨w.heap.size + 1, 0, none⟩ _ w.heap.size hdj).trans hcb2)))
  have hds := qQ (o := 0) (qK hcs) rfl
  refine bodyPost_ret (v := .agg #[.slice va ps.length vc]) (by simp [results, Try.results141, go_sem, hds]) rfl ⟨_, rfl, ?_, ?_⟩
  · exact kJ ((Below.heap_setCell w2 ⟨w.heap.size + 1, 0, none⟩ _ w.heap.size hdj).trans hcb2) (kJ hb2 hown2 (by decide)) (by decide)
  · exact Bw.setCell (Bw.setCell (hB0.trans hB2) (by simp) _) (by simp) _
def atN (y : Nd) (W : Nat) (w v : Int) : Int := if y.kind == 5 then v % W else if y.kind == 6 then (v % y.k) % W else w
set_option maxRecDepth 100000 in
set_option maxHeartbeats 2000000 in
theorem pworks_any {S : Nat → Prop} {pb : Nat} {x : PX} {ns : List Nd} {R W : Nat} {D : Nat → Nat → Int} {st : PSt} (y : Nd) (wk v : Int) (w : World) (hO : POwn w S pb x ns R W D st) (h6 : y.kind = 6 → 1 ≤ y.k ∧ y.k ≤ 8) :
    Calls Try.prog 139 #[.pointer (some ⟨pb, 0, none⟩), .int .i64 wk, .agg #[.int .i64 y.kind, .int .i64 y.a, .int .i64 y.b, .int .i64 y.k, .int .i64 y.m], .int .i64 v] w fun e w' => e = .returned (.int .i64 (atN y W wk v)) ∧ Bw w w' := by
  have c3 := qQ (o := 3) hO.root hO.r3
  have lt0 := hO.slt _ hO.sroot
  have hs := hO.small
  clear hO
  have HR := qJ (fun w => tL v (W : Int) w (by omega) (by omega))
  obtain ⟨kd, a, b, k, m⟩ := y
  simp only at h6 ⊢
  have HA : Hid (atN ⟨kd, a, b, k, m⟩ W wk v = if kd == 5 then v % W else if kd == 6 then (v % k) % W else wk) := qJ rfl
  cases h5 : (kd == 5) with
  | true =>
    have He : Hid (atN ⟨kd, a, b, k, m⟩ W wk v = v % W) := qJ (by rw [qK HA, h5]; rfl)
    go_enter Try.func139, Try.ntmps139
    go_wp2_with (go_at_call 152; refine ((qK HR) _).mono ?_; rintro e w' ⟨rfl, rfl⟩)
    go_ret
    exact ⟨kN (qK He).symm, (by repeat first|exact br _|assumption|apply bd|apply bn|apply ba|refine bt ?_ (by assumption))⟩
  | false =>
    cases h7 : (kd == 6) with
    | true =>
      have hk := h6 (by simpa using h7)
      have HR1 := qJ (fun w => tL v k w (by omega) (by omega))
      have HR2 := qJ (fun w => tL (v % k) (W : Int) w (by omega) (by omega))
      have He : Hid (atN ⟨kd, a, b, k, m⟩ W wk v = (v % k) % W) := qJ (by rw [qK HA, h5, h7]; rfl)
      clear h6
      go_enter Try.func139, Try.ntmps139
      go_wp2_with fail
      refine ((qK HR1) _).mono ?_
      rintro e w' ⟨rfl, rfl⟩
      go_wp2_with fail
      refine ((qK HR2) _).mono ?_
      rintro e w' ⟨rfl, rfl⟩
      go_wp2_with fail
      go_ret
      exact ⟨kN (qK He).symm, (by repeat first|exact br _|assumption|apply bd|apply bn|apply ba|refine bt ?_ (by assumption))⟩
    | false =>
      have He : Hid (atN ⟨kd, a, b, k, m⟩ W wk v = wk) := qJ (by rw [qK HA, h5, h7]; rfl)
      clear h6
      go_enter Try.func139, Try.ntmps139
      go_wp2_with fail
      go_ret
      exact ⟨kN (qK He).symm, (by repeat first|exact br _|assumption|apply bd|apply bn|apply ba|refine bt ?_ (by assumption))⟩
def gU (L W : Nat) (w n : Int) : Int := if mT W w && jQ L n then 0 else 3
theorem tV (l : List Gv) : (qB l).length = l.length * 3 := by
  induction l with
  | nil => rfl
  | cons x l ih => simp only [qB, List.flatMap_cons, List.length_append, List.length_cons] at ih ⊢; rw [ih]; simp [Gv.cells]; omega
theorem POwn.bel {w : World} {S : Nat → Prop} {pb : Nat} {x : PX} {ns : List Nd} {R W : Nat} {D : Nat → Nat → Int} {st : PSt} (h : POwn w S pb x ns R W D st) {i : Nat} (hi : i < W) : BelAt w x.wb (i * 3684 + 3296) (st.tb i) :=
  ⟨h.slt _ h.swork, fun k hk => qQ h.work (h.row.bel i hi k hk)⟩
theorem tabAt_in {S : Nat → Prop} {w : World} {v : Value} {n m : Nat} {f : Nat → Nat → Int} (h : TabIn S w v n m f) (hm : 0 < m) : TabAt w (yQ v) n m f := by
  obtain ⟨vs, h1, h2⟩ := h
  intro i hi
  obtain ⟨g, e, hl, hc⟩ := vT h1.1 (by omega)
  obtain ⟨u, eu, h3⟩ := h2 i hi
  obtain ⟨g2, e2, hl2, hc2⟩ := vT h3.1 hm
  have hv := qW h3.1
  rw [e2] at hv
  refine ⟨g, 0, e, hl, g2, 0, capV u, ?_, hl2, fun j hj => ?_⟩
  · rw [Nat.zero_add, ← hv]; exact hc i u eu
  · rw [Nat.zero_add]; exact hc2 j _ (by simp [hj])
theorem lW {w : World} {base : Nat} {v : Value} {ty : TypeId} {ps : List Pt} (h : w.ownsRow base ty 5 v ps.length (qG ps)) : PtsAt w (yQ v) ps := by
  intro i hi
  obtain ⟨g, e, hl, hc⟩ := vT h (by omega)
  refine ⟨g, 0, e, hl, fun j hj => ?_⟩
  simp only [Nat.zero_add]
  have q : ∀ f, f < 5 → ∀ u, (Pt.cells (vU ps j))[f]? = some u → w.cell? ⟨g, j * 5 + f, none⟩ = some u := fun f hf u hu => hc _ _ ((mW (f := Pt.cells) (d := ⟨0, false, 0, 0, 0⟩) (fun _ => rfl) ps j hj f hf).trans hu)
  exact ⟨q 0 (by omega) _ rfl, q 1 (by omega) _ rfl, q 2 (by omega) _ rfl, q 3 (by omega) _ rfl, q 4 (by omega) _ rfl⟩
def pfrR (ns : List Nd) (R W : Nat) (D : Nat → Nat → Int) (tb : Nat → Nat → Int) (w n : Int) : List Tm := if mT W w && jQ ns.length n then wK (inT (yG ns D R (vN (tb w.toNat) 4 8) n.toNat (vN (tb w.toNat) 4 8).length)) 6 else []
set_option maxRecDepth 100000 in
set_option maxHeartbeats 2000000 in
theorem pfront_any {S : Nat → Prop} {pb : Nat} {x : PX} {ns : List Nd} {R W : Nat} {D : Nat → Nat → Int} {st : PSt} (wk n : Int) (w : World) (hO : POwn w S pb x ns R W D st) (hD : ∀ a b, D a b ≤ 1000) (hD1 : ∀ a b, -1 ≤ D a b) (hok : ∀ i, i < W → ∀ p ∈ vN (st.tb i) 4 8, wP ns.length R p) :
    Calls Try.prog 62 #[.pointer (some ⟨pb, 0, none⟩), .int .i64 wk, .int .i64 n] w fun e w' => ∃ v, e = .returned (.tuple #[v, .int .i64 (gU ns.length W wk n)]) ∧ OwnT w w' v (pfrR ns R W D st.tb wk n) ∧ Bw w w' := by
  have Hw := qJ (fun w' (h : Bw w w') => hJ wk w' (hO.bw h))
  obtain ⟨na, nc, hvn, hnd⟩ := hO.ns
  have Hk := qJ (fun w' => xU na ns.length nc (R : Int) n w')
  have c0 := qQ (o := 0) hO.root (hvn ▸ hO.r0)
  have c1 := qQ (o := 1) hO.root hO.r1
  have lt0 := hO.slt _ hO.sroot
  have HE : Hid (gU ns.length W wk n = if mT W wk && jQ ns.length n then 0 else 3) := qJ rfl
  have HL : Hid (pfrR ns R W D st.tb wk n = if mT W wk && jQ ns.length n then wK (inT (yG ns D R (vN (st.tb wk.toNat) 4 8) n.toNat (vN (st.tb wk.toNat) 4 8).length)) 6 else []) := qJ rfl
  cases hk1 : mT W wk with
  | false =>
    have He : Hid (gU ns.length W wk n = 3) := qJ (by rw [qK HE, hk1]; rfl)
    have Hl : Hid (pfrR ns R W D st.tb wk n = []) := qJ (by rw [qK HL, hk1]; rfl)
    rw [hk1] at Hw
    clear hO hnd hk1 hD hD1
    go_enter Try.func62, Try.ntmps62
    go_wp2_with (go_at_call 86; refine ((qK Hw) _ (by repeat first|exact br _|assumption|apply bd|apply bn|apply ba|refine bt ?_ (by assumption))).mono ?_; rintro e w' ⟨rfl, rfl⟩)
    go_ret2
    exact ⟨_, by rw [qK He]; rfl, by rw [qK Hl]; exact World.ownsRow_nil _ _ _ _, (by repeat first|exact br _|assumption|apply bd|apply bn|apply ba|refine bt ?_ (by assumption))⟩
  | true =>
    rw [hk1] at Hw
    cases hk2 : jQ ns.length n with
    | false =>
      have He : Hid (gU ns.length W wk n = 3) := qJ (by rw [qK HE, hk1, hk2]; rfl)
      have Hl : Hid (pfrR ns R W D st.tb wk n = []) := qJ (by rw [qK HL, hk1, hk2]; rfl)
      rw [hk2] at Hk
      clear hO hnd hk1 hk2 hD hD1
      go_enter Try.func62, Try.ntmps62
      go_wp2_with (first | (go_at_call 86; refine ((qK Hw) _ (by repeat first|exact br _|assumption|apply bd|apply bn|apply ba|refine bt ?_ (by assumption))).mono ?_; rintro e w' ⟨rfl, rfl⟩) | (go_at_call 74; refine ((qK Hk) _).mono ?_; rintro e w2 ⟨rfl, hbl⟩))
      go_ret2
      exact ⟨_, by rw [qK He]; rfl, by rw [qK Hl]; exact World.ownsRow_nil _ _ _ _, (by repeat first|exact br _|assumption|apply bd|apply bn|apply ba|refine bt ?_ (by assumption))⟩
    | true =>
      obtain ⟨i, rfl, hi⟩ := isWk_iff.1 hk1
      obtain ⟨b1, b2⟩ := isNodeB_iff.1 hk2
      obtain ⟨m, rfl⟩ := Int.eq_ofNat_of_zero_le b1
      have hm : m < ns.length := by omega
      have h8 := hO.small
      have He : Hid (gU ns.length W (i : Int) (m : Int) = 0) := qJ (by rw [qK HE, hk1, hk2]; rfl)
      have Hl : Hid (pfrR ns R W D st.tb (i : Int) (m : Int) = wK (inT (yG ns D R (vN (st.tb i) 4 8) m (vN (st.tb i) 4 8).length)) 6) := qJ (by rw [qK HL, hk1, hk2, Bool.and_self, if_pos rfl, Int.toNat_natCast, Int.toNat_natCast])
      rw [hk2] at Hk
      have hoki := hok i hi
      have hle := vN_len (st.tb i) 4 8
      have hdt := tabAt_in hO.dist (by omega)
      obtain ⟨da, dc, hdv⟩ : ∃ da dc, x.vd = .slice da ns.length dc := by
        obtain ⟨vs, h, _⟩ := hO.dist
        exact ⟨_, _, qW h.1⟩
      rw [hdv] at hdt
      have hdt' : TabAt w da ns.length ns.length D := hdt
      have Hb := qJ (fun (w' : World) (h : Bw w w') => ppoints_any _ _ _ w' ((hO.bw h).bel hi))
      have Hc0 := qJ (fun (w' : World) (h : Bw w w') => qQ (o := 0) (hO.bw h).root (hvn ▸ hO.r0))
      have Hc1 := qJ (fun (w' : World) (h : Bw w w') => qQ (o := 1) (hO.bw h).root hO.r1)
      have Hc2 := qJ (fun (w' : World) (h : Bw w w') => qQ (o := 2) (hO.bw h).root (hdv ▸ hO.r2))
      have Hc3 := qJ (fun (w' : World) (h : Bw w w') => qQ (o := 3) (hO.bw h).root hO.r3)
      have Hlt := qJ (fun (w' : World) (h : Bw w w') => (hO.bw h).slt _ hO.swork)
      have Hlp := qJ (fun (w' : World) (h : Bw w w') => (hO.bw h).slt _ hO.sroot)
      have Hf := qJ (fun (w' : World) (h : Bw w w') (la : Option Addr) (lc : Nat) (hps : PtsAt w' la (vN (st.tb i) 4 8)) => pfrontier_any (nc := nc) (dc := dc) (lc := lc) (vN (st.tb i) 4 8) m w' (hnd.below h) (hdt'.below h) hps h8.1 h8.2.1 hm hD hD1 hoki (by omega))
      generalize vN (st.tb i) 4 8 = ps at *
      have hi1 : (i : Int) < (W : Int) := by omega
      clear hO hnd hk1 hk2 b1 b2 hD hD1 hdt hdt' hok hoki
      go_enter Try.func62, Try.ntmps62
      go_wp2_with (first | (go_at_call 86; refine ((qK Hw) _ (by repeat first|exact br _|assumption|apply bd|apply bn|apply ba|refine bt ?_ (by assumption))).mono ?_; rintro e w' ⟨rfl, rfl⟩) | (go_at_call 74; refine ((qK Hk) _).mono ?_; rintro e w2 ⟨rfl, hbl⟩; have q2 := (qK Hc3) w2 hbl; have q3 := (qK Hlt) w2 hbl; have q4 := (qK Hlp) w2 hbl) | (go_at_call 87; refine ((qK Hb) _ hbl).mono ?_; rintro e w3 ⟨v, rfl, hov, hb3⟩; obtain ⟨va, vc, hve⟩ : ∃ va vc, v = .slice va ps.length vc := ⟨_, _, qW hov⟩; subst hve; have hbl3 := hbl.trans hb3; have p0 := (qK Hc0) w3 hbl3; have p1 := (qK Hc1) w3 hbl3; have p2 := (qK Hc2) w3 hbl3; have p4 := (qK Hlp) w3 hbl3))
      have Hps := qJ (show PtsAt w3 va ps from lW hov)
      go_region_held3 (fun w' => w'.cell? ⟨pb, 0, none⟩ = some (.slice na ns.length nc) ∧ w'.cell? ⟨pb, 1, none⟩ = some (.int .i64 (R : Int)) ∧ w'.cell? ⟨pb, 2, none⟩ = some (.slice da ns.length dc)) (go_keep) ((go_at_call 88; refine ((qK Hf) _ (hbl3.trans (show Bw w3 _ from (by repeat first|exact br _|assumption|apply bd|apply bn|apply ba|refine bt ?_ (by assumption)))) va vc ((qK Hps).below (by repeat first|exact br _|assumption|apply bd|apply bn|apply ba|refine bt ?_ (by assumption)))).mono ?_; rintro e w4 ⟨u, rfl, hou, hb4⟩; have hb5 : Bw w3 w4 := (by repeat first|exact br _|assumption|apply bd|apply bn|apply ba|refine bt ?_ (by assumption)); have s0 := (qK Hc0) w4 (hbl3.trans hb5); have s1 := (qK Hc1) w4 (hbl3.trans hb5); have s2 := (qK Hc2) w4 (hbl3.trans hb5)))
      all_goals (
        go_wp2_with fail
        go_ret2
        exact ⟨_, by rw [qK He]; rfl, by rw [qK Hl]; exact hou.weaken (hbl3.trans (show Bw w3 _ from (by repeat first|exact br _|assumption|apply bd|apply bn|apply ba|refine bt ?_ (by assumption)))), hbl3.trans hb5⟩)
end Go.Proofs.Ytfemleimkbjehaa
