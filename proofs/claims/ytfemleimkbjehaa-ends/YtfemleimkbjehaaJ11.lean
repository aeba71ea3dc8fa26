import Derived.Test.YtfemleimkbjehaaJ10
import Derived.Test.YtfemleimkbjehaaJ8
import Derived.Deep.AppendSrc
import Derived.Test.YtfemleimkbjehaaJ2
set_option maxRecDepth 1000000
set_option maxHeartbeats 40000000
set_option linter.unusedVariables false
set_option linter.unusedSimpArgs false
namespace Go.Proofs.Ytfemleimkbjehaa
open Go.RowKit
theorem Try.infoChangeP : (Try.prog.info? 183).map (fun i => (i.zero, i.size, i.bytes)) = some (some (.agg #[.slice none 0 0]), 1, 24) := by kernel_rfl
def rowO (w : World) (ty : TypeId) (v : Value) (n : Nat) (vs : List Value) : Prop :=
  vs.length = n ∧ ((v = .slice none 0 0 ∧ n = 0) ∨ ∃ g off cap cur, v = .slice (some ⟨g, off, none⟩) n cap ∧ w.heap[g]? = some (.cells cur ty (0, 0)) ∧ n ≤ cap ∧ off + cap ≤ cur.size ∧ cap ≤ maxLen ∧ ∀ k u, vs[k]? = some u → cur[off + k]? = some u)
theorem rowO.val {w : World} {ty : TypeId} {v : Value} {n : Nat} {vs : List Value} (h : rowO w ty v n vs) : ∃ a c, v = .slice a n c := by
  obtain ⟨_, ⟨e, h0⟩ | ⟨g, off, cap, cur, e, _⟩⟩ := h
  · exact ⟨none, 0, by rw [e, h0]⟩
  · exact ⟨_, _, e⟩
theorem rowO.frame {w w' : World} {ty : TypeId} {v : Value} {n : Nat} {vs : List Value} (h : rowO w ty v n vs) (hf : ∀ b, Value.ownBlock v = some b → w'.heap[b]? = w.heap[b]?) : rowO w' ty v n vs := by
  obtain ⟨hl, h⟩ := h
  refine ⟨hl, ?_⟩
  rcases h with h | ⟨g, off, cap, cur, e, hc, r⟩
  · exact .inl h
  · exact .inr ⟨g, off, cap, cur, e, (hf g (by rw [e]; rfl)).trans hc, r⟩
theorem rowO.blk {w : World} {ty : TypeId} {v : Value} {n b : Nat} {vs : List Value} (h : rowO w ty v n vs) (hb : Value.ownBlock v = some b) : ∃ cur, w.heap[b]? = some (.cells cur ty (0, 0)) := by
  obtain ⟨_, ⟨e, _⟩ | ⟨g, off, cap, cur, e, hc, _⟩⟩ := h
  · rw [e] at hb; simp [Value.ownBlock] at hb
  · rw [e] at hb
    simp only [Value.ownBlock, Option.some.injEq] at hb
    subst hb
    exact ⟨cur, hc⟩
theorem rowO.bw {w w' : World} {ty : TypeId} {v : Value} {n : Nat} {vs : List Value} (h : rowO w ty v n vs) (hb : Bw w w') : rowO w' ty v n vs := h.frame fun b hbb => by
  obtain ⟨cur, hc⟩ := h.blk hbb
  exact Below.block hb b (Array.getElem?_eq_some_iff.1 hc).1
theorem setCells_one (w : World) (b o : Nat) (u : Value) : w.setCells b o [u] = w.setCell ⟨b, o, none⟩ u := rfl
theorem run_appO (w : World) (res : TypeId) (v : Value) (n : Nat) (vs : List Value) (h : rowO w 183 v n vs) (h1 : ∀ u ∈ vs, u.oneCell' = true) (g c : Nat) (u : Value) (hc : w.cell? ⟨g, 0, none⟩ = some u) (hu : u.oneCell' = true) (hl : n + 1 ≤ 1000000000) :
    ∃ g' off' cap w', (Builtin.append_ #[159, 159] res #[v, .slice (some ⟨g, 0, none⟩) 1 c]).run Try.prog w = .ok (.slice (some ⟨g', off', none⟩) (n + 1) cap) w' ∧ rowO w' 183 (.slice (some ⟨g', off', none⟩) (n + 1) cap) (n + 1) (vs ++ [u]) ∧ w.grownBy w' v.ownBlock ∧ (v.ownBlock = some g' ∨ g' = w.heap.size) := by
  obtain ⟨i0, hi, hz0, hz1, hz2⟩ := info_parts Try.infoChangeP
  have hsrc : Src Try.prog i0.size 159 (.slice (some ⟨g, 0, none⟩) 1 c) 1 [u] w := by
    rw [hz1]
    exact Src.ofSlice w Try.underlying159 ⟨g, 0, none⟩ 1 c [u] rfl (fun j x hj => by
      match j, hj with
      | 0, hj => simp at hj; subst hj; simpa [Addr.add] using hc) (by intro x hx; simp at hx; subst hx; exact hu)
  obtain ⟨hvl, h⟩ := h
  have grow : ∀ (base : Option Addr) (cap : Nat), v = .slice base n cap → cap < n + 1 → (∀ w0 : World, w0 = w.drew → (Builtin.firstCells i0.size n (.slice base n cap)).run Try.prog w0 = .ok vs.toArray w0) →
      ∃ g' off' cap w', (Builtin.append_ #[159, 159] res #[v, .slice (some ⟨g, 0, none⟩) 1 c]).run Try.prog w = .ok (.slice (some ⟨g', off', none⟩) (n + 1) cap) w' ∧ rowO w' 183 (.slice (some ⟨g', off', none⟩) (n + 1) cap) (n + 1) (vs ++ [u]) ∧ w.grownBy w' v.ownBlock ∧ (v.ownBlock = some g' ∨ g' = w.heap.size) := by
    intro base cap e hcap hold
    have hr := run_append_grow_src (P := Try.prog) w 159 159 res 183 i0 (.agg #[.slice none 0 0]) Try.underlying159 hi hz0 base n cap vs (hold _ rfl) (.slice (some ⟨g, 0, none⟩) 1 c) 1 [u] hsrc hcap (by omega) (growslice_fits hcap (by rw [hz2]; omega))
    refine ⟨w.heap.size, 0, _, _, by rw [e]; exact hr, ⟨by simp [hvl], .inr ⟨w.heap.size, 0, _, _, rfl, heap_alloc_new w.drew _, grownCap_ge w (n + 1) cap _, ?_, grownCap_le_maxLen w (n + 1) cap _ (by unfold maxLen; omega), ?_⟩⟩, ⟨rfl, rfl, rfl, by simp, fun k hk _ => Below.heap_alloc w.drew _ k hk⟩, .inr rfl⟩
    · have := grownCap_ge w (n + 1) cap 183
      simp [size_zeroCells, hvl, Value.cells]
      omega
    · intro k x hk
      have hlt := (List.getElem?_eq_some_iff.1 hk).1
      rw [Nat.zero_add, Array.getElem?_append_left (by simpa using hlt)]
      simpa using hk
  rcases h with ⟨e, h0⟩ | ⟨gv, off, cap, cur, e, hcur, hncap, hoc, hcm, hvs⟩
  · subst h0
    have hv0 : vs = [] := List.length_eq_zero_iff.1 hvl
    refine grow none 0 e (by omega) (fun w0 _ => ?_)
    rw [hv0]
    exact run_firstCells_none w0 _ _ _ _
  · by_cases hroom : n + 1 ≤ cap
    · have hr := run_append_room_src (P := Try.prog) w 159 159 res 183 i0 Try.underlying159 hi gv off n cap (.slice (some ⟨g, 0, none⟩) 1 c) 1 [u] hsrc hroom (fun j hj => by
          have : j = 0 := by simpa using hj
          subst this
          rw [hz1]
          have hlt : off + n * 1 + 0 < cur.size := by omega
          rw [qQ hcur (Array.getElem?_eq_getElem hlt)]
          rfl) (fun j _ => qZ hcur)
      rw [hz1, setCells_one] at hr
      refine ⟨gv, off, cap, _, by rw [e]; exact hr, ⟨by simp [hvl], .inr ⟨gv, off, cap, _, rfl, qY hcur, hroom, by simpa using hoc, hcm, ?_⟩⟩, ⟨rfl, rfl, rfl, by simp, fun k hk hn => Below.heap_setCell w ⟨gv, off + n * 1, none⟩ u k (fun e2 => hn (by rw [e, e2]; rfl))⟩, .inl (by rw [e]; rfl)⟩
      intro k x hk
      by_cases hkn : k < n
      · rw [List.getElem?_append_left (by omega)] at hk
        rw [Array.getElem?_setIfInBounds_ne (by omega)]
        exact hvs k x hk
      · have hkk : k = n := by have := (List.getElem?_eq_some_iff.1 hk).1; simp at this; omega
        subst hkk
        rw [List.getElem?_append_right (by omega), hvl] at hk
        simp at hk
        subst hk
        rw [Nat.mul_one, Array.getElem?_setIfInBounds_self_of_lt (by omega)]
    · refine grow _ cap e (by omega) (fun w0 hw0 => ?_)
      rw [hz1]
      refine run_firstCells_some w0 1 n ⟨gv, off, none⟩ n cap vs (by simp [hvl]) (fun j x hj => ?_)
      refine wK ?_
      rw [hw0]
      have := qQ hcur (hvs j x hj)
      simpa using this
theorem stepO {ops : Array Oper} {o : Oper} {a : Act} {w : World} {K : Act → World → Prop} {Q : Exit → Act → World → Prop} {E : Prop} (hgd : o.guard = none) (s y : Operand)
    (ho : o.op = .call { callee := .builtin .append, args := #[s, y], argTypes := #[159, 159] }) (v : Value) (n : Nat) (vs : List Value) (hs : a.eval s = v) (h : rowO w 183 v n vs) (h1 : ∀ u ∈ vs, u.oneCell' = true)
    (g c : Nat) (u : Value) (hx : a.eval y = .slice (some ⟨g, 0, none⟩) 1 c) (hc : w.cell? ⟨g, 0, none⟩ = some u) (hu : u.oneCell' = true) (hl : n + 1 ≤ 1000000000)
    (hK : ∀ g' off' cap w', rowO w' 183 (.slice (some ⟨g', off', none⟩) (n + 1) cap) (n + 1) (vs ++ [u]) → w.grownBy w' v.ownBlock → (v.ownBlock = some g' ∨ g' = w.heap.size) → K (a.put o.dst (.slice (some ⟨g', off', none⟩) (n + 1) cap)) w') :
    if Region.wanted o (yielded ops a.tmps) = true then Oper.wp Try.prog o a w K Q else E := by
  obtain ⟨g', off', cap, w', hr, h2, h3, h4⟩ := run_appO w o.type v n vs h h1 g c u hc hu hl
  have hw : Region.wanted o (yielded ops a.tmps) = true := by simp [Region.wanted, hgd]
  rw [if_pos hw]
  unfold Oper.wp
  simp only [execOp, ho, resolve, invoke, builtin, Sem.run_bind, Sem.run_pure, Result.andThen_ok, List.map_toArray, List.map_cons, List.map_nil, hs, hx, hr]
  exact hK g' off' cap w' h2 h3 h4
structure PSt where
  ep : Nat → Nat → Int
  cl : Nat → Nat → Bool
  wt : Nat → Nat → List Gv
  lb : Nat → Nat → List Gv
  tl : Nat → Nat → Nat → Value
  tb : Nat → Nat → Int
  wy : Nat → Nat → List (List Pt)
  gv : Int
  rc : List Nd
structure PX where
  rarr : Array Value
  vn : Value
  vd : Value
  wb : Nat
  wc : Nat
  warr : Array Value
  vr : Value
def WayIn (S : Nat → Prop) (w : World) (v : Value) (l : List (List Pt)) : Prop :=
  ∃ vs : List Value, rowO w 183 v l.length vs ∧ (∀ b, v.ownBlock = some b → S b) ∧ ∀ k, k < l.length → ∃ u, vs[k]? = some u ∧ OwnsIn S w 194 5 u (l.getD k []).length (qG (l.getD k []))
structure PRow (w : World) (S : Nat → Prop) (warr : Array Value) (L W : Nat) (st : PSt) : Prop where
  size : W * 3684 ≤ warr.size
  src : ∀ i n, i < W → n < L → warr[i * 3684 + n * 2]? = some (.int .i64 (st.ep i n)) ∧ warr[i * 3684 + n * 2 + 1]? = some (.bool (st.cl i n))
  wait : ∀ i n, i < W → n < L → ∃ v, warr[i * 3684 + 16 + n]? = some v ∧ OwnsIn S w 117 3 v (st.wt i n).length (qD (st.wt i n))
  letb : ∀ i n, i < W → n < L → ∃ v, warr[i * 3684 + 24 + n]? = some v ∧ OwnsIn S w 117 3 v (st.lb i n).length (qD (st.lb i n))
  tal : ∀ i n, i < W → n < L → ∀ k, k < 408 → warr[i * 3684 + 32 + n * 408 + k]? = some (st.tl i n k)
  bel : ∀ i, i < W → ∀ k, k < 384 → warr[i * 3684 + 3296 + k]? = some (.int .i64 (st.tb i k))
  way : ∀ i j, i < W → j < 4 → ∃ v, warr[i * 3684 + 3680 + j]? = some v ∧ WayIn S w v (st.wy i j)
  own : ∀ (p b : Nat) (v : Value), p < W * 3684 → warr[p]? = some v → v.ownBlock = some b → S b
  inj : ∀ (p q b : Nat) (v u : Value), p < W * 3684 → q < W * 3684 → warr[p]? = some v → warr[q]? = some u → v.ownBlock = some b → u.ownBlock = some b → p = q
structure POwn (w : World) (S : Nat → Prop) (pb : Nat) (x : PX) (ns : List Nd) (R W : Nat) (D : Nat → Nat → Int) (st : PSt) : Prop where
  root : w.heap[pb]? = some (.cells x.rarr 106 (0, 0))
  r0 : x.rarr[0]? = some x.vn
  r1 : x.rarr[1]? = some (.int .i64 (R : Int))
  r2 : x.rarr[2]? = some x.vd
  r3 : x.rarr[3]? = some (.slice (some ⟨x.wb, 0, none⟩) W x.wc)
  r4 : x.rarr[4]? = some (.int .i64 st.gv)
  r5 : x.rarr[5]? = some x.vr
  work : w.heap[x.wb]? = some (.cells x.warr 162 (0, 0))
  sroot : S pb
  swork : S x.wb
  slt : ∀ b, S b → b < w.heap.size
  nodes : OwnsIn S w 32 5 x.vn ns.length (qL ns)
  dist : TabIn S w x.vd ns.length ns.length D
  recs : OwnsIn S w 110 5 x.vr st.rc.length (qL st.rc)
  row : PRow w S x.warr ns.length W st
  small : ns.length ≤ 8 ∧ R ≤ 4 ∧ W ≤ 4 ∧ 1 ≤ W ∧ 1 ≤ R ∧ 1 ≤ ns.length
  few : (∀ i n, (st.wt i n).length ≤ 100000000 ∧ (st.lb i n).length ≤ 100000000 ∧ (st.wy i n).length ≤ 100000000) ∧ st.rc.length ≤ 100000000
theorem WayIn.map {w w' : World} {S S' : Nat → Prop} {v : Value} {l : List (List Pt)} (h : WayIn S w v l) (hS : ∀ b, S b → S' b) (hf : ∀ b cur, v.ownBlock = some b → w.heap[b]? = some (.cells cur 183 (0, 0)) → w'.heap[b]? = w.heap[b]?) (hp : ∀ (u : Value) (m : Nat) (ys : List Value), OwnsIn S w 194 5 u m ys → OwnsIn S' w' 194 5 u m ys) : WayIn S' w' v l := by
  obtain ⟨vs, h1, h2, h3⟩ := h
  refine ⟨vs, h1.frame (fun b hb => by obtain ⟨cur, hc⟩ := h1.blk hb; exact hf b cur hb hc), fun b hb => hS b (h2 b hb), fun k hk => ?_⟩
  obtain ⟨u, e, h4⟩ := h3 k hk
  exact ⟨u, e, hp _ _ _ h4⟩
theorem PRow.map {w w' : World} {S S' : Nat → Prop} {warr : Array Value} {L W : Nat} {st : PSt} (h : PRow w S warr L W st) (hS : ∀ b, S b → S' b) (hf : ∀ (ty : TypeId) (sz : Nat) (u : Value) (m : Nat) (ys : List Value), ty = 117 ∨ ty = 194 → OwnsIn S w ty sz u m ys → OwnsIn S' w' ty sz u m ys) (hc : ∀ b cur, S b → w.heap[b]? = some (.cells cur 183 (0, 0)) → w'.heap[b]? = w.heap[b]?) : PRow w' S' warr L W st := by
  refine ⟨h.size, h.src, fun i n hi hn => ?_, fun i n hi hn => ?_, h.tal, h.bel, fun i j hi hj => ?_, fun p b v h0 h1 h2 => hS b (h.own p b v h0 h1 h2), h.inj⟩
  · obtain ⟨v, e, h1⟩ := h.wait i n hi hn
    exact ⟨v, e, hf _ _ _ _ _ (.inl rfl) h1⟩
  · obtain ⟨v, e, h1⟩ := h.letb i n hi hn
    exact ⟨v, e, hf _ _ _ _ _ (.inl rfl) h1⟩
  · obtain ⟨v, e, h1⟩ := h.way i j hi hj
    refine ⟨v, e, h1.map hS (fun b cur hb hcur => ?_) fun _ _ _ h => hf _ _ _ _ _ (.inr rfl) h⟩
    obtain ⟨vs, _, h2, _⟩ := h1
    exact hc b cur (h2 b hb) hcur
theorem POwn.frame {w w' : World} {S : Nat → Prop} {pb : Nat} {x : PX} {ns : List Nd} {R W : Nat} {D : Nat → Nat → Int} {st : PSt} (h : POwn w S pb x ns R W D st) (hz : w.heap.size ≤ w'.heap.size) (hf : ∀ b, S b → b < w.heap.size → w'.heap[b]? = w.heap[b]?) : POwn w' S pb x ns R W D st :=
  ⟨(hf pb h.sroot (h.slt pb h.sroot)).trans h.root, h.r0, h.r1, h.r2, h.r3, h.r4, h.r5, (hf _ h.swork (h.slt _ h.swork)).trans h.work, h.sroot, h.swork, fun b hb => Nat.lt_of_lt_of_le (h.slt b hb) hz, h.nodes.frame hf, h.dist.frame hf, h.recs.frame hf, h.row.map (fun _ h => h) (fun _ _ _ _ _ _ h => h.frame hf) (fun b cur hb hc => hf b hb (Array.getElem?_eq_some_iff.1 hc).1), h.small, h.few⟩
theorem POwn.bw {w w' : World} {S : Nat → Prop} {pb : Nat} {x : PX} {ns : List Nd} {R W : Nat} {D : Nat → Nat → Int} {st : PSt} (h : POwn w S pb x ns R W D st) (hb : Bw w w') : POwn w' S pb x ns R W D st := h.frame hb.size fun b _ hl => Below.block hb b hl
theorem POwn.other {w w' : World} {S T : Nat → Prop} {pb : Nat} {x : PX} {ns : List Nd} {R W : Nat} {D : Nat → Nat → Int} {st : PSt} (h : POwn w S pb x ns R W D st) (hc : Chg T w w') (hd : ∀ b, S b → ¬ T b) : POwn w' S pb x ns R W D st := h.frame hc.size fun b hb hl => hc.block b hl (hd b hb)
def POwn.After (w w' : World) (S : Nat → Prop) (pb : Nat) (ns : List Nd) (R W : Nat) (D : Nat → Nat → Int) (st : PSt) : Prop :=
  ∃ S' x', POwn w' S' pb x' ns R W D st ∧ Chg S w w' ∧ ∀ b, S' b → S b ∨ w.heap.size ≤ b
theorem POwn.after_same {w : World} {S : Nat → Prop} {pb : Nat} {x : PX} {ns : List Nd} {R W : Nat} {D : Nat → Nat → Int} {st : PSt} (h : POwn w S pb x ns R W D st) : POwn.After w w S pb ns R W D st := ⟨S, x, h, Chg.refl _ _, fun _ hb => .inl hb⟩
theorem POwn.ns {w : World} {S : Nat → Prop} {pb : Nat} {x : PX} {ns : List Nd} {R W : Nat} {D : Nat → Nat → Int} {st : PSt} (h : POwn w S pb x ns R W D st) : ∃ na nc, x.vn = .slice na ns.length nc ∧ NodesAt w na ns :=
  ⟨_, _, qU h.nodes.1, bY h.nodes.1⟩
def xG (W : Nat) (w : Int) : Bool := decide (0 ≤ w) && decide (w < W)
theorem isWk_iff {W : Nat} {w : Int} : xG W w = true ↔ ∃ i : Nat, w = i ∧ i < W := by
  unfold xG
  simp only [Bool.and_eq_true, decide_eq_true_eq]
  constructor
  · rintro ⟨h1, h2⟩
    exact ⟨w.toNat, by omega, by omega⟩
  · rintro ⟨i, rfl, h⟩
    omega
set_option maxRecDepth 100000 in
set_option maxHeartbeats 2000000 in
theorem uD {S : Nat → Prop} {pb : Nat} {x : PX} {ns : List Nd} {R W : Nat} {D : Nat → Nat → Int} {st : PSt} (wk : Int) (w : World) (hO : POwn w S pb x ns R W D st) :
    Calls Try.prog 86 #[.pointer (some ⟨pb, 0, none⟩), .int .i64 wk] w fun e w' => e = .returned (.bool (xG W wk)) ∧ w' = w := by
  have c3 := qQ (o := 3) hO.root hO.r3
  have lt0 := hO.slt _ hO.sroot
  clear hO
  unfold xG
  cases h1 : decide (0 ≤ wk) with
  | false =>
    go_enter Try.func86, Try.ntmps86
    go_wp2_with fail
    go_ret
    exact ⟨rfl, rfl⟩
  | true =>
    go_enter Try.func86, Try.ntmps86
    go_wp2_with fail
    go_ret
    exact ⟨rfl, rfl⟩
def jM (ns : List Nd) (W : Nat) (cl : Nat → Nat → Bool) (w n : Int) : Int := if xG W w && (kN ns.length n && ((qV ns n.toNat).kind == 0)) then (if cl w.toNat n.toNat then 4 else 0) else 3
set_option maxRecDepth 100000 in
set_option maxHeartbeats 2000000 in
theorem psrc_any {S : Nat → Prop} {pb : Nat} {x : PX} {ns : List Nd} {R W : Nat} {D : Nat → Nat → Int} {st : PSt} (wk n : Int) (w : World) (hO : POwn w S pb x ns R W D st) :
    Calls Try.prog 112 #[.pointer (some ⟨pb, 0, none⟩), .int .i64 wk, .int .i64 n] w fun e w' => e = .returned (.int .i64 (jM ns W st.cl wk n)) ∧ Bw w w' := by
  have Hw := qJ (fun w' (h : Bw w w') => uD wk w' (hO.bw h))
  obtain ⟨na, nc, hvn, hnd⟩ := hO.ns
  have Hk := qJ (fun w' (h : Bw w w') => fR ns na nc (R : Int) n 0 w' (hnd.below h) (by have := hO.small; unfold maxLen; omega))
  have c0 := qQ (o := 0) hO.root (hvn ▸ hO.r0)
  have c1 := qQ (o := 1) hO.root hO.r1
  have lt0 := hO.slt _ hO.sroot
  have HE : Hid (jM ns W st.cl wk n = if xG W wk && (kN ns.length n && ((qV ns n.toNat).kind == 0)) then (if st.cl wk.toNat n.toNat then 4 else 0) else 3) := qJ rfl
  cases hk1 : xG W wk with
  | false =>
    have He : Hid (jM ns W st.cl wk n = 3) := qJ (by rw [qK HE, hk1]; rfl)
    rw [hk1] at Hw
    clear hO hnd hk1
    go_enter Try.func112, Try.ntmps112
    go_wp2_with (go_at_call 86; refine ((qK Hw) _ (by repeat first|exact br _|assumption|apply bd|apply bn|apply ba|refine bt ?_ (by assumption))).mono ?_; rintro e w' ⟨rfl, rfl⟩)
    go_ret
    exact ⟨kM (qK He).symm, (by repeat first|exact br _|assumption|apply bd|apply bn|apply ba|refine bt ?_ (by assumption))⟩
  | true =>
    rw [hk1] at Hw
    cases hk2 : (kN ns.length n && ((qV ns n.toNat).kind == 0)) with
    | false =>
      have He : Hid (jM ns W st.cl wk n = 3) := qJ (by rw [qK HE, hk1, hk2]; rfl)
      rw [hk2] at Hk
      clear hO hnd hk1 hk2
      go_enter Try.func112, Try.ntmps112
      go_wp2_with (first | (go_at_call 86; refine ((qK Hw) _ (by repeat first|exact br _|assumption|apply bd|apply bn|apply ba|refine bt ?_ (by assumption))).mono ?_; rintro e w' ⟨rfl, rfl⟩) | (go_at_call 129; refine ((qK Hk) _ (by repeat first|exact br _|assumption|apply bd|apply bn|apply ba|refine bt ?_ (by assumption))).mono ?_; rintro e w2 ⟨rfl, hbl⟩))
      go_ret
      exact ⟨kM (qK He).symm, (by repeat first|exact br _|assumption|apply bd|apply bn|apply ba|refine bt ?_ (by assumption))⟩
    | true =>
      obtain ⟨i, rfl, hi⟩ := isWk_iff.1 hk1
      have hk3 := hk2
      simp only [Bool.and_eq_true] at hk3
      obtain ⟨b1, b2⟩ := isNodeB_iff.1 hk3.1
      obtain ⟨m, rfl⟩ := Int.eq_ofNat_of_zero_le b1
      have hm : m < ns.length := by omega
      have h8 := hO.small
      have He : Hid (jM ns W st.cl (i : Int) (m : Int) = if st.cl i m then 4 else 0) := qJ (by rw [qK HE, hk1, hk2]; simp)
      rw [hk2] at Hk
      have Hc2 := qJ (fun (w' : World) (h : Bw w w') => qQ (o := i * 3684 + m * 2 + 1) (hO.bw h).work (hO.row.src i m hi hm).2)
      have Hc3 := qJ (fun (w' : World) (h : Bw w w') => qQ (o := 3) (hO.bw h).root hO.r3)
      have Hlt := qJ (fun (w' : World) (h : Bw w w') => (hO.bw h).slt _ hO.swork)
      have Hlp := qJ (fun (w' : World) (h : Bw w w') => (hO.bw h).slt _ hO.sroot)
      have hi1 : (i : Int) < (W : Int) := by omega
      have hm1 : (m : Int) < 8 := by omega
      clear hO hnd hk1 hk2 hk3 b1 b2
      cases hcl : st.cl i m with
      | false =>
        rw [hcl] at He Hc2
        go_enter Try.func112, Try.ntmps112
        go_wp2_with (first | (go_at_call 86; refine ((qK Hw) _ (by repeat first|exact br _|assumption|apply bd|apply bn|apply ba|refine bt ?_ (by assumption))).mono ?_; rintro e w' ⟨rfl, rfl⟩) | (go_at_call 129; refine ((qK Hk) _ (by repeat first|exact br _|assumption|apply bd|apply bn|apply ba|refine bt ?_ (by assumption))).mono ?_; rintro e w2 ⟨rfl, hbl⟩; have q1 := (qK Hc2) w2 hbl; have q2 := (qK Hc3) w2 hbl; have q3 := (qK Hlt) w2 hbl; have q4 := (qK Hlp) w2 hbl))
        go_ret
        exact ⟨kM (qK He).symm, (by repeat first|exact br _|assumption|apply bd|apply bn|apply ba|refine bt ?_ (by assumption))⟩
      | true =>
        rw [hcl] at He Hc2
        go_enter Try.func112, Try.ntmps112
        go_wp2_with (first | (go_at_call 86; refine ((qK Hw) _ (by repeat first|exact br _|assumption|apply bd|apply bn|apply ba|refine bt ?_ (by assumption))).mono ?_; rintro e w' ⟨rfl, rfl⟩) | (go_at_call 129; refine ((qK Hk) _ (by repeat first|exact br _|assumption|apply bd|apply bn|apply ba|refine bt ?_ (by assumption))).mono ?_; rintro e w2 ⟨rfl, hbl⟩; have q1 := (qK Hc2) w2 hbl; have q2 := (qK Hc3) w2 hbl; have q3 := (qK Hlt) w2 hbl; have q4 := (qK Hlp) w2 hbl))
        go_ret
        exact ⟨kM (qK He).symm, (by repeat first|exact br _|assumption|apply bd|apply bn|apply ba|refine bt ?_ (by assumption))⟩
set_option maxRecDepth 100000 in
set_option maxHeartbeats 2000000 in
theorem tR {S : Nat → Prop} {pb : Nat} {x : PX} {ns : List Nd} {R W : Nat} {D : Nat → Nat → Int} {st : PSt} (i m : Nat) (w : World) (hO : POwn w S pb x ns R W D st) (hi : i < W) (hm : m < ns.length) :
    Calls Try.prog 113 #[.pointer (some ⟨pb, 0, none⟩), .int .i64 (i : Int), .int .i64 (m : Int)] w fun e w' => e = .returned (.agg #[.int .i64 (st.ep i m), .int .i64 0]) ∧ Bw w w' := by
  have c3 := qQ (o := 3) hO.root hO.r3
  have c4 := qQ (o := i * 3684 + m * 2) hO.work (hO.row.src i m hi hm).1
  have lt0 := hO.slt _ hO.sroot
  have lt1 := hO.slt _ hO.swork
  have h8 := hO.small
  have hi1 : (i : Int) < (W : Int) := by omega
  have hm1 : (m : Int) < 8 := by omega
  clear hO
  go_enter Try.func113, Try.ntmps113
  go_wp2_with fail
  refine bodyPost_ret (v := .agg #[.int .i64 (st.ep i m), .int .i64 0]) (by simp [results, Try.results113, go_sem]) rfl ⟨rfl, ?_⟩
  exact (by repeat first|exact br _|assumption|apply bd|apply bn|apply ba|refine bt ?_ (by assumption))
set_option maxRecDepth 100000 in
set_option maxHeartbeats 2000000 in
theorem pin_any (n e s c : Int) (w : World) : Calls Try.prog 140 #[.int .i64 n, .agg #[.int .i64 e, .int .i64 s], .int .i64 c] w fun en w' => en = .returned (Pt.val ⟨n, false, e, s, c⟩) ∧ Bw w w' := by
  go_enter Try.func140, Try.ntmps140
  go_wp2_with fail
  refine bodyPost_ret (v := Pt.val ⟨n, false, e, s, c⟩) (by simp [results, Try.results140, go_sem, Pt.val]) rfl ⟨rfl, ?_⟩
  exact (by repeat first|exact br _|assumption|apply bd|apply bn|apply ba|refine bt ?_ (by assumption))
set_option maxRecDepth 100000 in
set_option maxHeartbeats 2000000 in
theorem mC (n e s c : Int) (w : World) : Calls Try.prog 137 #[.int .i64 n, .agg #[.int .i64 e, .int .i64 s], .int .i64 c] w fun en w' => en = .returned (Pt.val ⟨n, true, e, s, c⟩) ∧ Bw w w' := by
  go_enter Try.func137, Try.ntmps137
  go_wp2_with fail
  refine bodyPost_ret (v := Pt.val ⟨n, true, e, s, c⟩) (by simp [results, Try.results137, go_sem, Pt.val]) rfl ⟨rfl, ?_⟩
  exact (by repeat first|exact br _|assumption|apply bd|apply bn|apply ba|refine bt ?_ (by assumption))
theorem yU (w : World) (A B : Obj) : ((w.alloc A).alloc B).heap[w.heap.size]? = some A ∧ ((w.alloc A).alloc B).heap[w.heap.size + 1]? = some B ∧ Bw w ((w.alloc A).alloc B) := by
  refine ⟨(Below.block (show Bw (w.alloc A) _ from (by repeat first|exact br _|assumption|apply bd|apply bn|apply ba|refine bt ?_ (by assumption))) _ (by simp)).trans (heap_alloc_new w _), ?_, (by repeat first|exact br _|assumption|apply bd|apply bn|apply ba|refine bt ?_ (by assumption))⟩
  rw [show w.heap.size + 1 = (w.alloc A).heap.size by simp]; exact heap_alloc_new _ _
theorem CellsAt.below {w w' : World} {ad : Option Addr} {m : Nat} {news : List Value} (h : CellsAt w ad m news) (hb : Bw w w') : CellsAt w' ad m news := by
  intro hm
  obtain ⟨g, off, e, hc⟩ := h hm
  refine ⟨g, off, e, fun j u hj => ?_⟩
  have h1 := hc j u hj
  have hlt : g < w.heap.size := by
    rcases Nat.lt_or_ge g w.heap.size with h | h
    · exact h
    · rw [World.cell?, Array.getElem?_eq_none (by simpa using h)] at h1; simp at h1
  exact ((qX hb).1 _ _ hlt).trans h1
set_option maxRecDepth 100000 in
set_option maxHeartbeats 2000000 in
theorem pchangeOf_any (ps : List Pt) (pa : Option Addr) (pc : Nat) (w : World) (hps : CellsAt w pa ps.length (qG ps)) (hl : ps.length ≤ 1000) :
    Calls Try.prog 141 #[.slice pa ps.length pc] w fun en w' => ∃ v, en = .returned (.agg #[v]) ∧ OwnP w w' v ps ∧ Bw w w' := by
  obtain ⟨w0, hw0⟩ : ∃ w0, (w.alloc (.cells #[.slice none 0 0] 183)).alloc (.cells #[.slice none 0 0] 183) = w0 := ⟨_, rfl⟩
  have hA := yU w (.cells #[.slice none 0 0] 183) (.cells #[.slice none 0 0] 183)
  rw [hw0] at hA
  obtain ⟨hc0, hv0, hB0⟩ := hA
  have a0 := qQ (o := 0) hv0 rfl
  have al := (Array.getElem?_eq_some_iff.1 hv0).1
  have hps0 : CellsAt w0 pa ps.length (qG ps) := hps.below hB0
  go_enter Try.func141, Try.ntmps141
  go_wp2_with (at_builtin; refine appG w0 rfl _ _ _ 194 rfl _ 5 40 Try.infoPoint Try.underlying97 rfl (by decide) w.heap.size (.slice none 0 0) 0 [] rfl (World.ownsRow_nil _ _ _ _) _ ps.length _ (qG ps) rfl (xB ps) hps0 (fB ps) (by omega) (by omega) (Bw.size hB0) ?_; intro v1 w2 hown2 hgr2 hl2; have hB2 := mY hgr2; rw [Nat.zero_add, List.nil_append] at hown2; have hb2 := (Below.block hB2 _ (Array.getElem?_eq_some_iff.1 hv0).1).trans hv0; have e0 := qQ (o := 0) hb2 rfl; have ef := qZ (o := 0) hb2; have el := (Array.getElem?_eq_some_iff.1 hb2).1; have hcb2 := (Below.block hB2 _ (Array.getElem?_eq_some_iff.1 hc0).1).trans hc0; have f0 := qQ (o := 0) hcb2 rfl; have ff := qZ (o := 0) hcb2; have fl := (Array.getElem?_eq_some_iff.1 hcb2).1; obtain ⟨va, vc, hve⟩ : ∃ va vc, v1 = .slice va ps.length vc := ⟨_, _, qU hown2⟩; subst hve; have hdj : ¬ w.heap.size = w.heap.size + 1 := (by omega); have hcs := qJ (qY (k := 0) (v := .slice va ps.length vc) (show (w2.setCell ⟨w.heap.size + 1, 0, none⟩ (.slice va ps.length vc)).heap[w.heap.size]? = _ from (Below.heap_setCell w2 ⟨w.heap.size + 1, 0, none⟩ _ w.heap.size hdj).trans hcb2)))
  have hds := qQ (o := 0) (qK hcs) rfl
  refine bodyPost_ret (v := .agg #[.slice va ps.length vc]) (by simp [results, Try.results141, go_sem, hds]) rfl ⟨_, rfl, ?_, ?_⟩
  · exact kJ ((Below.heap_setCell w2 ⟨w.heap.size + 1, 0, none⟩ _ w.heap.size hdj).trans hcb2) (kJ hb2 hown2 (by decide)) (by decide)
  · exact Bw.setCell (Bw.setCell (hB0.trans hB2) (by simp) _) (by simp) _
def atN (y : Nd) (W : Nat) (w v : Int) : Int := if y.kind == 5 then v % W else if y.kind == 6 then (v % y.k) % W else w
set_option maxRecDepth 100000 in
set_option maxHeartbeats 2000000 in
theorem pworks_any {S : Nat → Prop} {pb : Nat} {x : PX} {ns : List Nd} {R W : Nat} {D : Nat → Nat → Int} {st : PSt} (y : Nd) (wk v : Int) (w : World) (hO : POwn w S pb x ns R W D st) (h6 : y.kind = 6 → 1 ≤ y.k ∧ y.k ≤ 8) :
    Calls Try.prog 139 #[.pointer (some ⟨pb, 0, none⟩), .int .i64 wk, .agg #[.int .i64 y.kind, .int .i64 y.a, .int .i64 y.b, .int .i64 y.k, .int .i64 y.m], .int .i64 v] w fun e w' => e = .returned (.int .i64 (atN y W wk v)) ∧ Bw w w' := by
  have c3 := qQ (o := 3) hO.root hO.r3
  have lt0 := hO.slt _ hO.sroot
  have hs := hO.small
  clear hO
  have HR := qJ (fun w => tC v (W : Int) w (by omega) (by omega))
  obtain ⟨kd, a, b, k, m⟩ := y
  simp only at h6 ⊢
  have HA : Hid (atN ⟨kd, a, b, k, m⟩ W wk v = if kd == 5 then v % W else if kd == 6 then (v % k) % W else wk) := qJ rfl
  cases h5 : (kd == 5) with
  | true =>
    have He : Hid (atN ⟨kd, a, b, k, m⟩ W wk v = v % W) := qJ (by rw [qK HA, h5]; rfl)
    go_enter Try.func139, Try.ntmps139
    go_wp2_with (go_at_call 152; refine ((qK HR) _).mono ?_; rintro e w' ⟨rfl, rfl⟩)
    go_ret
    exact ⟨kM (qK He).symm, (by repeat first|exact br _|assumption|apply bd|apply bn|apply ba|refine bt ?_ (by assumption))⟩
  | false =>
    cases h7 : (kd == 6) with
    | true =>
      have hk := h6 (by simpa using h7)
      have HR1 := qJ (fun w => tC v k w (by omega) (by omega))
      have HR2 := qJ (fun w => tC (v % k) (W : Int) w (by omega) (by omega))
      have He : Hid (atN ⟨kd, a, b, k, m⟩ W wk v = (v % k) % W) := qJ (by rw [qK HA, h5, h7]; rfl)
      clear h6
      go_enter Try.func139, Try.ntmps139
      go_wp2_with fail
      refine ((qK HR1) _).mono ?_
      rintro e w' ⟨rfl, rfl⟩
      go_wp2_with fail
      refine ((qK HR2) _).mono ?_
      rintro e w' ⟨rfl, rfl⟩
      go_wp2_with fail
      go_ret
      exact ⟨kM (qK He).symm, (by repeat first|exact br _|assumption|apply bd|apply bn|apply ba|refine bt ?_ (by assumption))⟩
    | false =>
      have He : Hid (atN ⟨kd, a, b, k, m⟩ W wk v = wk) := qJ (by rw [qK HA, h5, h7]; rfl)
      clear h6
      go_enter Try.func139, Try.ntmps139
      go_wp2_with fail
      go_ret
      exact ⟨kM (qK He).symm, (by repeat first|exact br _|assumption|apply bd|apply bn|apply ba|refine bt ?_ (by assumption))⟩
def uP (L W : Nat) (w n : Int) : Int := if xG W w && kN L n then 0 else 3
def mB (L W : Nat) (wt : Nat → Nat → List Gv) (w n : Int) : List Gv := if xG W w && kN L n then wt w.toNat n.toNat else []
def OwnM (W w : World) (v : Value) (l : List Gv) : Prop := w.ownsRow W.heap.size 117 3 v l.length (qD l)
theorem xL (l : List Gv) : (qD l).length = l.length * 3 := by
  induction l with
  | nil => rfl
  | cons x l ih => simp only [qD, List.flatMap_cons, List.length_append, List.length_cons] at ih ⊢; rw [ih]; simp [Gv.cells]; omega
theorem gvs_one (a : List Gv) : ∀ u ∈ qD a, u.oneCell' = true := by
  intro u hu
  simp only [qD, List.mem_flatMap] at hu
  obtain ⟨p, _, hp⟩ := hu
  exact gP p u hp
set_option maxRecDepth 100000 in
set_option maxHeartbeats 2000000 in
theorem pwaiting_any {S : Nat → Prop} {pb : Nat} {x : PX} {ns : List Nd} {R W : Nat} {D : Nat → Nat → Int} {st : PSt} (wk n : Int) (w : World) (hO : POwn w S pb x ns R W D st) :
    Calls Try.prog 60 #[.pointer (some ⟨pb, 0, none⟩), .int .i64 wk, .int .i64 n] w fun e w' => ∃ v, e = .returned (.tuple #[v, .int .i64 (uP ns.length W wk n)]) ∧ OwnM w w' v (mB ns.length W st.wt wk n) ∧ Bw w w' := by
  have Hw := qJ (fun w' (h : Bw w w') => uD wk w' (hO.bw h))
  obtain ⟨na, nc, hvn, hnd⟩ := hO.ns
  have Hk := qJ (fun w' => yS na ns.length nc (R : Int) n w')
  have c0 := qQ (o := 0) hO.root (hvn ▸ hO.r0)
  have c1 := qQ (o := 1) hO.root hO.r1
  have lt0 := hO.slt _ hO.sroot
  have HE : Hid (uP ns.length W wk n = if xG W wk && kN ns.length n then 0 else 3) := qJ rfl
  have HL : Hid (mB ns.length W st.wt wk n = if xG W wk && kN ns.length n then st.wt wk.toNat n.toNat else []) := qJ rfl
  cases hk1 : xG W wk with
  | false =>
    have He : Hid (uP ns.length W wk n = 3) := qJ (by rw [qK HE, hk1]; rfl)
    have Hl : Hid (mB ns.length W st.wt wk n = []) := qJ (by rw [qK HL, hk1]; rfl)
    rw [hk1] at Hw
    clear hO hnd hk1
    go_enter Try.func60, Try.ntmps60
    go_wp2_with (go_at_call 86; refine ((qK Hw) _ (by repeat first|exact br _|assumption|apply bd|apply bn|apply ba|refine bt ?_ (by assumption))).mono ?_; rintro e w' ⟨rfl, rfl⟩)
    go_ret2
    exact ⟨_, by rw [qK He]; rfl, by rw [qK Hl]; exact World.ownsRow_nil _ _ _ _, (by repeat first|exact br _|assumption|apply bd|apply bn|apply ba|refine bt ?_ (by assumption))⟩
  | true =>
    rw [hk1] at Hw
    cases hk2 : kN ns.length n with
    | false =>
      have He : Hid (uP ns.length W wk n = 3) := qJ (by rw [qK HE, hk1, hk2]; rfl)
      have Hl : Hid (mB ns.length W st.wt wk n = []) := qJ (by rw [qK HL, hk1, hk2]; rfl)
      rw [hk2] at Hk
      clear hO hnd hk1 hk2
      go_enter Try.func60, Try.ntmps60
      go_wp2_with (first | (go_at_call 86; refine ((qK Hw) _ (by repeat first|exact br _|assumption|apply bd|apply bn|apply ba|refine bt ?_ (by assumption))).mono ?_; rintro e w' ⟨rfl, rfl⟩) | (go_at_call 74; refine ((qK Hk) _).mono ?_; rintro e w2 ⟨rfl, hbl⟩))
      go_ret2
      exact ⟨_, by rw [qK He]; rfl, by rw [qK Hl]; exact World.ownsRow_nil _ _ _ _, (by repeat first|exact br _|assumption|apply bd|apply bn|apply ba|refine bt ?_ (by assumption))⟩
    | true =>
      obtain ⟨i, rfl, hi⟩ := isWk_iff.1 hk1
      obtain ⟨b1, b2⟩ := isNodeB_iff.1 hk2
      obtain ⟨m, rfl⟩ := Int.eq_ofNat_of_zero_le b1
      have hm : m < ns.length := by omega
      have h8 := hO.small
      have hfw := hO.few.1 i m
      have He : Hid (uP ns.length W (i : Int) (m : Int) = 0) := qJ (by rw [qK HE, hk1, hk2]; rfl)
      have Hl : Hid (mB ns.length W st.wt (i : Int) (m : Int) = st.wt i m) := qJ (by rw [qK HL, hk1, hk2]; rfl)
      rw [hk2] at Hk
      obtain ⟨v, hv1, hv2⟩ := hO.row.wait i m hi hm
      obtain ⟨va, vc, hve⟩ : ∃ va vc, v = .slice va (st.wt i m).length vc := ⟨_, _, qU hv2.1⟩
      subst hve
      have Hc2 := qJ (fun (w' : World) (h : Bw w w') => qQ (o := i * 3684 + 16 + m) (hO.bw h).work hv1)
      have Hc3 := qJ (fun (w' : World) (h : Bw w w') => qQ (o := 3) (hO.bw h).root hO.r3)
      have Hlt := qJ (fun (w' : World) (h : Bw w w') => (hO.bw h).slt _ hO.swork)
      have Hlp := qJ (fun (w' : World) (h : Bw w w') => (hO.bw h).slt _ hO.sroot)
      have Hca := qJ (fun (w' : World) (h : Bw w w') => zM (qP hv2.1 fun g hg => Below.block h g hg))
      have hi1 : (i : Int) < (W : Int) := by omega
      have hm1 : (m : Int) < 8 := by omega
      generalize st.wt i m = ms at *
      clear hO hnd hk1 hk2 b1 b2 hv1 hv2
      go_enter Try.func60, Try.ntmps60
      go_wp2_with (first | (go_at_call 86; refine ((qK Hw) _ (by repeat first|exact br _|assumption|apply bd|apply bn|apply ba|refine bt ?_ (by assumption))).mono ?_; rintro e w' ⟨rfl, rfl⟩) | (go_at_call 74; refine ((qK Hk) _).mono ?_; rintro e w2 ⟨rfl, hbl⟩; have q1 := (qK Hc2) w2 hbl; have q2 := (qK Hc3) w2 hbl; have q3 := (qK Hlt) w2 hbl; have q4 := (qK Hlp) w2 hbl) | (at_builtin; refine appG w2 rfl _ _ _ 117 rfl _ 3 24 Try.infoMessage Try.underlying70 rfl (by decide) w2.heap.size (.slice none 0 0) 0 [] rfl (World.ownsRow_nil _ _ _ _) _ ms.length _ (qD ms) rfl (xL ms) ((qK Hca) w2 hbl) (gvs_one ms) (by omega) (by omega) (Nat.le_refl _) ?_; intro v3 w3 ho3 hg3 hl3))
      go_ret2
      rw [Nat.zero_add, List.nil_append] at ho3
      exact ⟨_, by rw [qK He]; rfl, by rw [qK Hl]; exact kW ho3 (Bw.size hbl), hbl.trans (mY hg3)⟩
def gM (W : Nat) (w : Int) : Int := if xG W w then 0 else 3
def gL (W : Nat) (tb : Nat → Nat → Int) (w : Int) : List Pt := if xG W w then vN (tb w.toNat) 4 8 else []
theorem POwn.bel {w : World} {S : Nat → Prop} {pb : Nat} {x : PX} {ns : List Nd} {R W : Nat} {D : Nat → Nat → Int} {st : PSt} (h : POwn w S pb x ns R W D st) {i : Nat} (hi : i < W) : BelAt w x.wb (i * 3684 + 3296) (st.tb i) :=
  ⟨h.slt _ h.swork, fun k hk => qQ h.work (h.row.bel i hi k hk)⟩
set_option maxRecDepth 100000 in
set_option maxHeartbeats 2000000 in
theorem pview_any {S : Nat → Prop} {pb : Nat} {x : PX} {ns : List Nd} {R W : Nat} {D : Nat → Nat → Int} {st : PSt} (wk : Int) (w : World) (hO : POwn w S pb x ns R W D st) :
    Calls Try.prog 81 #[.pointer (some ⟨pb, 0, none⟩), .int .i64 wk] w fun e w' => ∃ v, e = .returned (.tuple #[v, .int .i64 (gM W wk)]) ∧ OwnP w w' v (gL W st.tb wk) ∧ Bw w w' := by
  have Hw := qJ (fun w' (h : Bw w w') => uD wk w' (hO.bw h))
  have HE : Hid (gM W wk = if xG W wk then 0 else 3) := qJ rfl
  have HL : Hid (gL W st.tb wk = if xG W wk then vN (st.tb wk.toNat) 4 8 else []) := qJ rfl
  cases hk1 : xG W wk with
  | false =>
    have He : Hid (gM W wk = 3) := qJ (by rw [qK HE, hk1]; rfl)
    have Hl : Hid (gL W st.tb wk = []) := qJ (by rw [qK HL, hk1]; rfl)
    rw [hk1] at Hw
    clear hO hk1
    go_enter Try.func81, Try.ntmps81
    go_wp2_with (go_at_call 86; refine ((qK Hw) _ (by repeat first|exact br _|assumption|apply bd|apply bn|apply ba|refine bt ?_ (by assumption))).mono ?_; rintro e w' ⟨rfl, rfl⟩)
    go_ret2
    exact ⟨_, by rw [qK He]; rfl, by rw [qK Hl]; exact World.ownsRow_nil _ _ _ _, (by repeat first|exact br _|assumption|apply bd|apply bn|apply ba|refine bt ?_ (by assumption))⟩
  | true =>
    obtain ⟨i, rfl, hi⟩ := isWk_iff.1 hk1
    have He : Hid (gM W (i : Int) = 0) := qJ (by rw [qK HE, hk1]; rfl)
    have Hl : Hid (gL W st.tb (i : Int) = vN (st.tb i) 4 8) := qJ (by rw [qK HL, hk1]; rfl)
    rw [hk1] at Hw
    have c3 := qQ (o := 3) hO.root hO.r3
    have lt0 := hO.slt _ hO.sroot
    have lt1 := hO.slt _ hO.swork
    have Hb := qJ (bW _ _ _ w (hO.bel hi))
    have hi1 : (i : Int) < (W : Int) := by omega
    clear hO hk1
    go_enter Try.func81, Try.ntmps81
    go_wp2_with (first | (go_at_call 86; refine ((qK Hw) _ (by repeat first|exact br _|assumption|apply bd|apply bn|apply ba|refine bt ?_ (by assumption))).mono ?_; rintro e w' ⟨rfl, rfl⟩) | (go_at_call 87; refine (qK Hb).mono ?_; rintro e w2 ⟨v, rfl, hov, hbl⟩))
    go_ret2
    exact ⟨_, by rw [qK He]; rfl, by rw [qK Hl]; exact hov, hbl⟩
end Go.Proofs.Ytfemleimkbjehaa
