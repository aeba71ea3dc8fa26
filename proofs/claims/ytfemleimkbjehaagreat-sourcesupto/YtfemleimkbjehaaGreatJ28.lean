import Derived.Test.YtfemleimkbjehaaGreatRunM
import Derived.Test.YtfemleimkbjehaaGreatJ25
import Derived.Test.YtfemleimkbjehaaGreatJ9
namespace Go.Proofs.YtfemleimkbjehaaGreat
set_option linter.unusedVariables false
set_option linter.unusedSimpArgs false
open Go.RowKit

/-- How many values were given. -/
def giveTo (op : List Gv) : Nat → Nat
  | 0 => 0
  | i + 1 => if (gvn op i).value == 1 then giveTo op i + 1 else giveTo op i
theorem giveTo_le (op : List Gv) (k : Nat) : giveTo op k ≤ k := by
  induction k with
  | zero => simp [giveTo]
  | succ k ih => unfold giveTo; split <;> omega
def giveE (ns : List Nd) (W : Nat) (op : List Gv) (w n : Int) : Int := if sourceE ns W op w n != 0 then sourceE ns W op w n else if decide (20 ≤ giveTo op op.length) then 5 else 0
def giveSt (ns : List Nd) (W : Nat) (st : RSt) (w n v : Int) (k : Nat) : RSt := { st with mails := st.mails ++ putM ns W w n ⟨k, 0, v⟩ ns.length, log := st.log ++ [⟨w, putP ns n ⟨k, 0, v⟩ ns.length⟩], opened := st.opened ++ [⟨n, w, 1⟩] }
def giveS (ns : List Nd) (W : Nat) (st : RSt) (w n v : Int) : RSt := if giveE ns W st.opened w n == 0 then giveSt ns W st w n v (doneTo st.opened w n 2 st.opened.length) else st

set_option maxRecDepth 100000 in
set_option maxHeartbeats 4000000 in
theorem rgive_any {S : Nat → Prop} {rb : Nat} {x : RX} {ns : List Nd} {R W : Nat} {D : Nat → Nat → Int} {st : RSt} (wk n v : Int) (w : World) (hO : ROwn w S rb x ns R W D st) (hlo : st.opened.length + 1 ≤ 1000000) (hll : st.log.length + 1 ≤ 1000000) (hlm : st.mails.length + 8 ≤ 1000000) (h6 : ∀ k, k < ns.length → (ndn ns k).kind = 6 → 1 ≤ (ndn ns k).k ∧ (ndn ns k).k ≤ 8) :
    Calls Tryz.prog 29 #[.pointer (some ⟨rb, 0, none⟩), .int .i64 wk, .int .i64 n, .int .i64 v] w fun e w' => e = .returned (.int .i64 (giveE ns W st.opened wk n)) ∧ ROwn.After w w' S rb ns R W D (giveS ns W st wk n v) := by
  have HO := hide hO
  have Hsrc := hide (rsource_any wk n w hO.read)
  have Hdone := hide (rdone_any wk n 2 w hO.read)
  have hdl := doneTo_le st.opened wk n 2 st.opened.length
  have c6 := hO.read.c6
  have hlt0 := hO.read.lt
  have hop := hO.read.opened
  cases hse : (sourceE ns W st.opened wk n != 0) with
  | true =>
    have He : Hid (giveE ns W st.opened wk n = sourceE ns W st.opened wk n) := hide (by unfold giveE; rw [if_pos hse])
    have Hne : Hid (sourceE ns W st.opened wk n ≠ 0) := hide (by simpa using hse)
    have Hs : Hid (giveS ns W st wk n v = st) := hide (by unfold giveS; rw [unhide He, if_neg (by simpa using unhide Hne)])
    generalize sourceE ns W st.opened wk n = se at *
    clear hO
    go_enter Tryz.func29, Tryz.ntmps29
    go_wp2_with (go_at_call 57; refine (unhide Hsrc).mono ?_; rintro e w' ⟨rfl, rfl⟩)
    go_ret
    exact ⟨ret_int (unhide He).symm, by rw [unhide Hs]; exact (unhide HO).after_same⟩
  | false =>
    have hs0 : sourceE ns W st.opened wk n = 0 := by simpa using hse
    rw [hs0] at Hsrc
    have HE : Hid (giveE ns W st.opened wk n = if decide (20 ≤ giveTo st.opened st.opened.length) then 5 else 0) := hide (by unfold giveE; rw [hse]; rfl)
    clear hse hs0 hO
    go_enter Tryz.func29, Tryz.ntmps29
    go_wp2_with (go_at_call 57; refine (unhide Hsrc).mono ?_; rintro e w' ⟨rfl, rfl⟩)
    rename World => w
    go_loopw [10, 11] (fun c i wr => ∃ k : Nat, k ≤ st.opened.length ∧ i = .int .i64 k ∧ c = .int .i64 (giveTo st.opened k : Nat) ∧ wr = w) (fun _ i _ => st.opened.length - (intOf i).toNat)
    case atStart => exact ⟨0, Nat.zero_le _, rfl, rfl, rfl⟩
    case round =>
      obtain ⟨k, hk, rfl, rfl, rfl⟩ := hrel
      rename World => w
      have hle := giveTo_le st.opened k
      by_cases hlt : k < st.opened.length
      · obtain ⟨b, off, e, hb, hc⟩ := hop k hlt
        obtain ⟨d0, d1, d2⟩ := hc k hlt
        rw [e] at c6
        clear hc e
        have Hg : Hid (giveTo st.opened (k + 1) = if (gvn st.opened k).value == 1 then giveTo st.opened k + 1 else giveTo st.opened k) := hide rfl
        generalize gvn st.opened k = y at *
        cases h1 : (y.value == 1) with
        | true =>
          have Hs : Hid (giveTo st.opened (k + 1) = giveTo st.opened k + 1) := hide (by rw [unhide Hg, h1]; rfl)
          clear Hg
          go_wp2_with fail
          go_roundw
          case rel => exact ⟨k + 1, by omega, by go_num, by rw [unhide Hs]; go_num, by trivial⟩
          case measure => simp [intOf]; omega
        | false =>
          have Hs : Hid (giveTo st.opened (k + 1) = giveTo st.opened k) := hide (by rw [unhide Hg, h1]; rfl)
          clear Hg
          go_wp2_with fail
          go_roundw
          case rel => exact ⟨k + 1, by omega, by go_num, by rw [unhide Hs], by trivial⟩
          case measure => simp [intOf]; omega
      · have hkk : k = st.opened.length := by omega
        subst hkk
        by_cases h20 : 20 ≤ giveTo st.opened st.opened.length
        · have He : Hid (giveE ns W st.opened wk n = 5) := hide (by rw [unhide HE, show decide (20 ≤ giveTo st.opened st.opened.length) = true by simpa using h20]; rfl)
          have Hs : Hid (giveS ns W st wk n v = st) := hide (by unfold giveS; rw [unhide He]; rfl)
          generalize giveTo st.opened st.opened.length = gt at *
          go_wp2_with fail
          go_ret
          exact ⟨ret_int (unhide He).symm, by rw [unhide Hs]; exact (unhide HO).after_same⟩
        · have He : Hid (giveE ns W st.opened wk n = 0) := hide (by rw [unhide HE, show decide (20 ≤ giveTo st.opened st.opened.length) = false by simpa using h20]; rfl)
          have Hs : Hid (giveS ns W st wk n v = giveSt ns W st wk n v (doneTo st.opened wk n 2 st.opened.length)) := hide (by unfold giveS; rw [unhide He]; rfl)
          generalize giveTo st.opened st.opened.length = gt at *
          generalize doneTo st.opened wk n 2 st.opened.length = k at *
          go_wp2_with (go_at_call 58; refine (unhide Hdone).mono ?_; rintro e w' ⟨rfl, rfl⟩)
          refine (rput_any wk n ⟨k, 0, v⟩ _ (unhide HO) hlm h6).mono ?_
          rintro en w1 ⟨vp, rfl, hP1, S1, x1, hO1, hC1, hS1⟩
          have hvp := ownsRow_val hP1
          obtain ⟨pa, pc, hpv⟩ : ∃ pa pc, vp = .slice pa (putP ns n ⟨k, 0, v⟩ ns.length).length pc := ⟨_, _, hvp⟩
          subst hpv
          obtain ⟨ps, hps⟩ : ∃ ps, putP ns n ⟨k, 0, v⟩ ns.length = ps := ⟨_, rfl⟩
          rw [hps] at hP1 ⊢
          have Hps := hide hps
          clear hps hvp
          obtain ⟨wA, hwA⟩ : ∃ wA, w1.alloc (.cells #[.int .i64 wk, .slice pa ps.length pc] 113) = wA := ⟨_, rfl⟩
          obtain ⟨hBA, hcA, hzA⟩ : Bw w1 wA ∧ wA.heap[w1.heap.size]? = some (.cells #[.int .i64 wk, .slice pa ps.length pc] 113) ∧ wA.heap.size = w1.heap.size + 1 := by
            rw [← hwA]; exact ⟨(by repeat (first | exact Bw.refl _ | assumption | refine Bw.drew ?_ | refine Bw.drewN ?_ _ | refine Bw.alloc ?_ _ | refine Bw.trans ?_ (by assumption))), heap_alloc_new w1 _, by simp⟩
          have hOA := hO1.bw hBA
          obtain ⟨vs, hvl, hl1, hl2⟩ := hOA.log
          have r4 := cell_of_block (o := 4) (u := x1.l) hO1.root rfl
          have rlt := (Array.getElem?_eq_some_iff.1 hO1.root).1
          have HOA := hide hOA
          have Hl1 := hide hl1
          have Hl2 := hide hl2
          have HPown := hide (hP1.bw hBA)
          have hc0 := cell_of_block (o := 0) hcA rfl
          have hc1 := cell_of_block (o := 1) hcA rfl
          have hz1 := hC1.size
          clear hl1 hl2 hOA hcA c6 hlt0 hop
          simp only at hvl
          go_wp2_with (first | (at_builtin; refine appL wA rfl _ _ _ 113 rfl _ 2 32 Tryz.infoChange Tryz.underlying79 rfl (by decide) 0 x1.l st.log.length (logCells st.log vs) rfl (unhide Hl1).1 _ _ [.int .i64 wk, .slice pa ps.length pc] rfl rfl (cells2 hc0 hc1) (by simp [Value.oneCell']) (by omega) (by omega) (Nat.zero_le _) ?_; intro g' cap w2 ho2 hg2 hl2'; have hr2 := grown_block (unhide Hl1).1 hg2 (unhide HOA).root (.inl (by decide)); have q4 := cell_of_block (o := 4) (u := x1.l) hr2 rfl; have q4f := frozen_of_block (o := 4) hr2; have q4l := (Array.getElem?_eq_some_iff.1 hr2).1; have HO3 := hide ((unhide HOA).addLog (c := ⟨wk, ps⟩) hvl (unhide Hl1) (unhide Hl2) (unhide HPown) ho2 hg2 hll); have q6 := cell_of_block (o := 6) (u := x1.o) hr2 rfl; have q6f := frozen_of_block (o := 6) hr2; clear hr2) | (at_builtin; refine appL _ rfl _ _ _ 152 rfl _ 3 24 Tryz.infoGivenR Tryz.underlying80 rfl (by decide) 0 x1.o st.opened.length (gvCells st.opened) rfl ((unhide HO3).bw ((Bw.refl _).alloc _)).opened.1 _ _ (Gv.cells ⟨n, wk, 1⟩) rfl rfl (gv_cells (cell_of_block (alloc_at _ _ (by simp)) rfl) (cell_of_block (alloc_at _ _ (by simp)) rfl) (cell_of_block (alloc_at _ _ (by simp)) rfl)) (gv_one _) (by omega) (by omega) (Nat.zero_le _) ?_; intro g2 cap2 w5 ho5 hg5 hl5; have hr5 := grown_block ((unhide HO3).bw ((Bw.refl _).alloc _)).opened.1 hg5 ((unhide HO3).bw ((Bw.refl _).alloc _)).root (.inl (by decide)); have p6 := cell_of_block (o := 6) (u := x1.o) hr5 rfl; have p6f := frozen_of_block (o := 6) hr5; have p6l := (Array.getElem?_eq_some_iff.1 hr5).1; have HO6 := hide (((unhide HO3).bw ((Bw.refl _).alloc _)).addOpened (y := ⟨n, wk, 1⟩) ho5 hg5 hlo); clear hr5))
          go_ret
          refine ⟨ret_int (unhide He).symm, ?_⟩
          rw [unhide Hs]
          unfold giveSt
          rw [unhide Hps]
          have hz2 := hg2.size
          have hz5 := hg5.size
          simp at hz5
          have hS3 : ∀ b, ((S1 b ∨ (Value.slice pa ps.length pc).ownBlock = some b) ∨ b = g') → S b ∨ w'.heap.size ≤ b := by
            intro b hb
            rcases hb with (hb | hb) | rfl
            · exact hS1 b hb
            · exact .inr (World.ownsRow.lt hP1 b hb).1
            · rcases hl2' with h | h
              · exact hS1 _ ((unhide Hl1).2 _ h)
              · exact .inr (by omega)
          refine ⟨_, _, unhide HO6, ?_, ?_⟩
          · have k2 := chg_add (k := 4) (base := 0) (v' := .slice (some ⟨g', 0, none⟩) (st.log.length + 1) cap) (unhide Hl1) hg2 (unhide HOA).sroot rfl
            have k4 := chg_add (k := 6) (base := 0) (v' := .slice (some ⟨g2, 0, none⟩) (st.opened.length + 1) cap2) ((unhide HO3).bw ((Bw.refl _).alloc _)).opened hg5 (unhide HO3).sroot rfl
            exact (((hC1.trans (Chg.bw (S := S) hBA) fun _ h => .inl h).trans k2 hS1).trans (Chg.bw (S := S) ((Bw.refl _).alloc _)) fun _ h => .inl h).trans k4 hS3
          · intro b hb
            rcases hb with hb | rfl
            · exact hS3 b hb
            · rcases hl5 with h | h
              · exact hS3 _ (((unhide HO3).opened).2 _ h)
              · simp at h; exact .inr (by omega)
end Go.Proofs.YtfemleimkbjehaaGreat
namespace Go.Proofs.YtfemleimkbjehaaGreat
set_option linter.unusedVariables false
set_option linter.unusedSimpArgs false
open Go.RowKit

/-- What the program's run holds, by worker: the Sources' epochs, which are closed, what waits, the beliefs; how many were given; a bound on what is on its way. -/
structure PSt where
  ep : Nat → Nat → Int
  cl : Nat → Nat → Bool
  wt : Nat → Nat → List Gv
  tb : Nat → Nat → Int
  gv : Int
  lim : Nat
/-- Where it holds it. -/
structure PX where
  rarr : Array Value
  vn : Value
  vd : Value
  wb : Nat
  wc : Nat
  warr : Array Value
/-- A row of memory in which the program's workers lie. -/
structure PRow (w : World) (S : Nat → Prop) (warr : Array Value) (L W : Nat) (st : PSt) : Prop where
  size : W * 3684 ≤ warr.size
  src : ∀ i n, i < W → n < L → warr[i * 3684 + n * 2]? = some (.int .i64 (st.ep i n)) ∧ warr[i * 3684 + n * 2 + 1]? = some (.bool (st.cl i n))
  wait : ∀ i n, i < W → n < L → ∃ v, warr[i * 3684 + 16 + n]? = some v ∧ OwnsIn S w 62 3 v (st.wt i n).length (gvCells (st.wt i n))
  bel : ∀ i, i < W → ∀ k, k < 384 → warr[i * 3684 + 3296 + k]? = some (.int .i64 (st.tb i k))
  way : ∀ i j, i < W → j < 4 → ∃ v k xs, warr[i * 3684 + 3680 + j]? = some v ∧ OwnsIn S w 121 1 v k xs ∧ k ≤ st.lim
  own : ∀ (p b : Nat) (v : Value), p < W * 3684 → warr[p]? = some v → v.ownBlock = some b → S b
  inj : ∀ (p q b : Nat) (v u : Value), p < W * 3684 → q < W * 3684 → warr[p]? = some v → warr[q]? = some u → v.ownBlock = some b → u.ownBlock = some b → p = q
/-- A run of the program, owned. -/
structure POwn (w : World) (S : Nat → Prop) (pb : Nat) (x : PX) (ns : List Nd) (R W : Nat) (D : Nat → Nat → Int) (st : PSt) : Prop where
  root : w.heap[pb]? = some (.cells x.rarr 92 (0, 0))
  r0 : x.rarr[0]? = some x.vn
  r1 : x.rarr[1]? = some (.int .i64 (R : Int))
  r2 : x.rarr[2]? = some x.vd
  r3 : x.rarr[3]? = some (.slice (some ⟨x.wb, 0, none⟩) W x.wc)
  r4 : x.rarr[4]? = some (.int .i64 st.gv)
  work : w.heap[x.wb]? = some (.cells x.warr 147 (0, 0))
  sroot : S pb
  swork : S x.wb
  slt : ∀ b, S b → b < w.heap.size
  nodes : OwnsIn S w 46 5 x.vn ns.length (nodeCells ns)
  dist : TabIn S w x.vd ns.length ns.length D
  row : PRow w S x.warr ns.length W st
  small : ns.length ≤ 8 ∧ R ≤ 4 ∧ W ≤ 4 ∧ 1 ≤ W ∧ 1 ≤ R ∧ 1 ≤ ns.length
  few : (∀ i n, (st.wt i n).length ≤ 1000000) ∧ st.lim ≤ 1000000
theorem PRow.map {w w' : World} {S S' : Nat → Prop} {warr : Array Value} {L W : Nat} {st : PSt} (h : PRow w S warr L W st) (hS : ∀ b, S b → S' b) (hf : ∀ (ty : TypeId) (sz : Nat) (u : Value) (m : Nat) (ys : List Value), ty = 62 ∨ ty = 121 → OwnsIn S w ty sz u m ys → OwnsIn S' w' ty sz u m ys) : PRow w' S' warr L W st := by
  refine ⟨h.size, h.src, fun i n hi hn => ?_, h.bel, fun i j hi hj => ?_, fun p b v h0 h1 h2 => hS b (h.own p b v h0 h1 h2), h.inj⟩
  · obtain ⟨v, e, h1⟩ := h.wait i n hi hn
    exact ⟨v, e, hf _ _ _ _ _ (.inl rfl) h1⟩
  · obtain ⟨v, k, xs, e, h1, h2⟩ := h.way i j hi hj
    exact ⟨v, k, xs, e, hf _ _ _ _ _ (.inr rfl) h1, h2⟩
theorem POwn.frame {w w' : World} {S : Nat → Prop} {pb : Nat} {x : PX} {ns : List Nd} {R W : Nat} {D : Nat → Nat → Int} {st : PSt} (h : POwn w S pb x ns R W D st) (hz : w.heap.size ≤ w'.heap.size) (hf : ∀ b, S b → b < w.heap.size → w'.heap[b]? = w.heap[b]?) : POwn w' S pb x ns R W D st :=
  ⟨(hf pb h.sroot (h.slt pb h.sroot)).trans h.root, h.r0, h.r1, h.r2, h.r3, h.r4, (hf _ h.swork (h.slt _ h.swork)).trans h.work, h.sroot, h.swork, fun b hb => Nat.lt_of_lt_of_le (h.slt b hb) hz, h.nodes.frame hf, h.dist.frame hf, h.row.map (fun _ h => h) fun _ _ _ _ _ _ h => h.frame hf, h.small, h.few⟩
theorem POwn.bw {w w' : World} {S : Nat → Prop} {pb : Nat} {x : PX} {ns : List Nd} {R W : Nat} {D : Nat → Nat → Int} {st : PSt} (h : POwn w S pb x ns R W D st) (hb : Bw w w') : POwn w' S pb x ns R W D st := h.frame hb.size fun b _ hl => Below.block hb b hl
theorem POwn.other {w w' : World} {S T : Nat → Prop} {pb : Nat} {x : PX} {ns : List Nd} {R W : Nat} {D : Nat → Nat → Int} {st : PSt} (h : POwn w S pb x ns R W D st) (hc : Chg T w w') (hd : ∀ b, S b → ¬ T b) : POwn w' S pb x ns R W D st := h.frame hc.size fun b hb hl => hc.block b hl (hd b hb)
def POwn.After (w w' : World) (S : Nat → Prop) (pb : Nat) (ns : List Nd) (R W : Nat) (D : Nat → Nat → Int) (st : PSt) : Prop :=
  ∃ S' x', POwn w' S' pb x' ns R W D st ∧ Chg S w w' ∧ ∀ b, S' b → S b ∨ w.heap.size ≤ b
theorem POwn.after_same {w : World} {S : Nat → Prop} {pb : Nat} {x : PX} {ns : List Nd} {R W : Nat} {D : Nat → Nat → Int} {st : PSt} (h : POwn w S pb x ns R W D st) : POwn.After w w S pb ns R W D st := ⟨S, x, h, Chg.refl _ _, fun _ hb => .inl hb⟩
theorem POwn.ns {w : World} {S : Nat → Prop} {pb : Nat} {x : PX} {ns : List Nd} {R W : Nat} {D : Nat → Nat → Int} {st : PSt} (h : POwn w S pb x ns R W D st) : ∃ na nc, x.vn = .slice na ns.length nc ∧ NodesAt w na ns :=
  ⟨_, _, ownsRow_val h.nodes.1, nodesAt_row h.nodes.1⟩

def isWk (W : Nat) (w : Int) : Bool := decide (0 ≤ w) && decide (w < W)
theorem isWk_iff {W : Nat} {w : Int} : isWk W w = true ↔ ∃ i : Nat, w = i ∧ i < W := by
  unfold isWk
  simp only [Bool.and_eq_true, decide_eq_true_eq]
  constructor
  · rintro ⟨h1, h2⟩
    exact ⟨w.toNat, by omega, by omega⟩
  · rintro ⟨i, rfl, h⟩
    omega
set_option maxRecDepth 100000 in
set_option maxHeartbeats 2000000 in
theorem pisWorker_any {S : Nat → Prop} {pb : Nat} {x : PX} {ns : List Nd} {R W : Nat} {D : Nat → Nat → Int} {st : PSt} (wk : Int) (w : World) (hO : POwn w S pb x ns R W D st) :
    Calls Tryz.prog 91 #[.pointer (some ⟨pb, 0, none⟩), .int .i64 wk] w fun e w' => e = .returned (.bool (isWk W wk)) ∧ w' = w := by
  have c3 := cell_of_block (o := 3) hO.root hO.r3
  have lt0 := hO.slt _ hO.sroot
  clear hO
  unfold isWk
  cases h1 : decide (0 ≤ wk) with
  | false =>
    go_enter Tryz.func91, Tryz.ntmps91
    go_wp2_with fail
    go_ret
    exact ⟨rfl, rfl⟩
  | true =>
    go_enter Tryz.func91, Tryz.ntmps91
    go_wp2_with fail
    go_ret
    exact ⟨rfl, rfl⟩
def psrcE (ns : List Nd) (W : Nat) (cl : Nat → Nat → Bool) (w n : Int) : Int := if isWk W w && (isNodeB ns.length n && ((ndn ns n.toNat).kind == 0)) then (if cl w.toNat n.toNat then 4 else 0) else 3
set_option maxRecDepth 100000 in
set_option maxHeartbeats 2000000 in
theorem psrc_any {S : Nat → Prop} {pb : Nat} {x : PX} {ns : List Nd} {R W : Nat} {D : Nat → Nat → Int} {st : PSt} (wk n : Int) (w : World) (hO : POwn w S pb x ns R W D st) :
    Calls Tryz.prog 86 #[.pointer (some ⟨pb, 0, none⟩), .int .i64 wk, .int .i64 n] w fun e w' => e = .returned (.int .i64 (psrcE ns W st.cl wk n)) ∧ Bw w w' := by
  have Hw := hide (fun w' (h : Bw w w') => pisWorker_any wk w' (hO.bw h))
  obtain ⟨na, nc, hvn, hnd⟩ := hO.ns
  have Hk := hide (fun w' (h : Bw w w') => isOfKind_any ns na nc (R : Int) n 0 w' (hnd.below h) (by have := hO.small; unfold maxLen; omega))
  have c0 := cell_of_block (o := 0) hO.root (hvn ▸ hO.r0)
  have c1 := cell_of_block (o := 1) hO.root hO.r1
  have lt0 := hO.slt _ hO.sroot
  have HE : Hid (psrcE ns W st.cl wk n = if isWk W wk && (isNodeB ns.length n && ((ndn ns n.toNat).kind == 0)) then (if st.cl wk.toNat n.toNat then 4 else 0) else 3) := hide rfl
  cases hk1 : isWk W wk with
  | false =>
    have He : Hid (psrcE ns W st.cl wk n = 3) := hide (by rw [unhide HE, hk1]; rfl)
    rw [hk1] at Hw
    clear hO hnd hk1
    go_enter Tryz.func86, Tryz.ntmps86
    go_wp2_with (go_at_call 91; refine ((unhide Hw) _ (by repeat (first | exact Bw.refl _ | assumption | refine Bw.drew ?_ | refine Bw.drewN ?_ _ | refine Bw.alloc ?_ _ | refine Bw.trans ?_ (by assumption)))).mono ?_; rintro e w' ⟨rfl, rfl⟩)
    go_ret
    exact ⟨ret_int (unhide He).symm, (by repeat (first | exact Bw.refl _ | assumption | refine Bw.drew ?_ | refine Bw.drewN ?_ _ | refine Bw.alloc ?_ _ | refine Bw.trans ?_ (by assumption)))⟩
  | true =>
    rw [hk1] at Hw
    cases hk2 : (isNodeB ns.length n && ((ndn ns n.toNat).kind == 0)) with
    | false =>
      have He : Hid (psrcE ns W st.cl wk n = 3) := hide (by rw [unhide HE, hk1, hk2]; rfl)
      rw [hk2] at Hk
      clear hO hnd hk1 hk2
      go_enter Tryz.func86, Tryz.ntmps86
      go_wp2_with (first | (go_at_call 91; refine ((unhide Hw) _ (by repeat (first | exact Bw.refl _ | assumption | refine Bw.drew ?_ | refine Bw.drewN ?_ _ | refine Bw.alloc ?_ _ | refine Bw.trans ?_ (by assumption)))).mono ?_; rintro e w' ⟨rfl, rfl⟩) | (go_at_call 111; refine ((unhide Hk) _ (by repeat (first | exact Bw.refl _ | assumption | refine Bw.drew ?_ | refine Bw.drewN ?_ _ | refine Bw.alloc ?_ _ | refine Bw.trans ?_ (by assumption)))).mono ?_; rintro e w2 ⟨rfl, hbl⟩))
      go_ret
      exact ⟨ret_int (unhide He).symm, (by repeat (first | exact Bw.refl _ | assumption | refine Bw.drew ?_ | refine Bw.drewN ?_ _ | refine Bw.alloc ?_ _ | refine Bw.trans ?_ (by assumption)))⟩
    | true =>
      obtain ⟨i, rfl, hi⟩ := isWk_iff.1 hk1
      have hk3 := hk2
      simp only [Bool.and_eq_true] at hk3
      obtain ⟨b1, b2⟩ := isNodeB_iff.1 hk3.1
      obtain ⟨m, rfl⟩ := Int.eq_ofNat_of_zero_le b1
      have hm : m < ns.length := by omega
      have h8 := hO.small
      have He : Hid (psrcE ns W st.cl (i : Int) (m : Int) = if st.cl i m then 4 else 0) := hide (by rw [unhide HE, hk1, hk2]; simp)
      rw [hk2] at Hk
      have Hc2 := hide (fun (w' : World) (h : Bw w w') => cell_of_block (o := i * 3684 + m * 2 + 1) (hO.bw h).work (hO.row.src i m hi hm).2)
      have Hc3 := hide (fun (w' : World) (h : Bw w w') => cell_of_block (o := 3) (hO.bw h).root hO.r3)
      have Hlt := hide (fun (w' : World) (h : Bw w w') => (hO.bw h).slt _ hO.swork)
      have Hlp := hide (fun (w' : World) (h : Bw w w') => (hO.bw h).slt _ hO.sroot)
      have hi1 : (i : Int) < (W : Int) := by omega
      have hm1 : (m : Int) < 8 := by omega
      clear hO hnd hk1 hk2 hk3 b1 b2
      cases hcl : st.cl i m with
      | false =>
        rw [hcl] at He Hc2
        go_enter Tryz.func86, Tryz.ntmps86
        go_wp2_with (first | (go_at_call 91; refine ((unhide Hw) _ (by repeat (first | exact Bw.refl _ | assumption | refine Bw.drew ?_ | refine Bw.drewN ?_ _ | refine Bw.alloc ?_ _ | refine Bw.trans ?_ (by assumption)))).mono ?_; rintro e w' ⟨rfl, rfl⟩) | (go_at_call 111; refine ((unhide Hk) _ (by repeat (first | exact Bw.refl _ | assumption | refine Bw.drew ?_ | refine Bw.drewN ?_ _ | refine Bw.alloc ?_ _ | refine Bw.trans ?_ (by assumption)))).mono ?_; rintro e w2 ⟨rfl, hbl⟩; have q1 := (unhide Hc2) w2 hbl; have q2 := (unhide Hc3) w2 hbl; have q3 := (unhide Hlt) w2 hbl; have q4 := (unhide Hlp) w2 hbl))
        go_ret
        exact ⟨ret_int (unhide He).symm, (by repeat (first | exact Bw.refl _ | assumption | refine Bw.drew ?_ | refine Bw.drewN ?_ _ | refine Bw.alloc ?_ _ | refine Bw.trans ?_ (by assumption)))⟩
      | true =>
        rw [hcl] at He Hc2
        go_enter Tryz.func86, Tryz.ntmps86
        go_wp2_with (first | (go_at_call 91; refine ((unhide Hw) _ (by repeat (first | exact Bw.refl _ | assumption | refine Bw.drew ?_ | refine Bw.drewN ?_ _ | refine Bw.alloc ?_ _ | refine Bw.trans ?_ (by assumption)))).mono ?_; rintro e w' ⟨rfl, rfl⟩) | (go_at_call 111; refine ((unhide Hk) _ (by repeat (first | exact Bw.refl _ | assumption | refine Bw.drew ?_ | refine Bw.drewN ?_ _ | refine Bw.alloc ?_ _ | refine Bw.trans ?_ (by assumption)))).mono ?_; rintro e w2 ⟨rfl, hbl⟩; have q1 := (unhide Hc2) w2 hbl; have q2 := (unhide Hc3) w2 hbl; have q3 := (unhide Hlt) w2 hbl; have q4 := (unhide Hlp) w2 hbl))
        go_ret
        exact ⟨ret_int (unhide He).symm, (by repeat (first | exact Bw.refl _ | assumption | refine Bw.drew ?_ | refine Bw.drewN ?_ _ | refine Bw.alloc ?_ _ | refine Bw.trans ?_ (by assumption)))⟩
end Go.Proofs.YtfemleimkbjehaaGreat
namespace Go.Proofs.YtfemleimkbjehaaGreat
set_option linter.unusedVariables false
set_option linter.unusedSimpArgs false
open Go.RowKit

set_option maxRecDepth 100000 in
set_option maxHeartbeats 2000000 in
theorem psrcTime_any {S : Nat → Prop} {pb : Nat} {x : PX} {ns : List Nd} {R W : Nat} {D : Nat → Nat → Int} {st : PSt} (i m : Nat) (w : World) (hO : POwn w S pb x ns R W D st) (hi : i < W) (hm : m < ns.length) :
    Calls Tryz.prog 87 #[.pointer (some ⟨pb, 0, none⟩), .int .i64 (i : Int), .int .i64 (m : Int)] w fun e w' => e = .returned (.agg #[.int .i64 (st.ep i m), .int .i64 0]) ∧ Bw w w' := by
  have c3 := cell_of_block (o := 3) hO.root hO.r3
  have c4 := cell_of_block (o := i * 3684 + m * 2) hO.work (hO.row.src i m hi hm).1
  have lt0 := hO.slt _ hO.sroot
  have lt1 := hO.slt _ hO.swork
  have h8 := hO.small
  have hi1 : (i : Int) < (W : Int) := by omega
  have hm1 : (m : Int) < 8 := by omega
  clear hO
  go_enter Tryz.func87, Tryz.ntmps87
  go_wp2_with fail
  refine bodyPost_ret (v := .agg #[.int .i64 (st.ep i m), .int .i64 0]) (by simp [results, Tryz.results87, go_sem]) rfl ⟨rfl, ?_⟩
  exact (by repeat (first | exact Bw.refl _ | assumption | refine Bw.drew ?_ | refine Bw.drewN ?_ _ | refine Bw.alloc ?_ _ | refine Bw.trans ?_ (by assumption)))

set_option maxRecDepth 100000 in
set_option maxHeartbeats 2000000 in
theorem pin_any (n e s c : Int) (w : World) : Calls Tryz.prog 114 #[.int .i64 n, .agg #[.int .i64 e, .int .i64 s], .int .i64 c] w fun en w' => en = .returned (Pt.val ⟨n, false, e, s, c⟩) ∧ Bw w w' := by
  go_enter Tryz.func114, Tryz.ntmps114
  go_wp2_with fail
  refine bodyPost_ret (v := Pt.val ⟨n, false, e, s, c⟩) (by simp [results, Tryz.results114, go_sem, Pt.val]) rfl ⟨rfl, ?_⟩
  exact (by repeat (first | exact Bw.refl _ | assumption | refine Bw.drew ?_ | refine Bw.drewN ?_ _ | refine Bw.alloc ?_ _ | refine Bw.trans ?_ (by assumption)))

set_option maxRecDepth 100000 in
set_option maxHeartbeats 2000000 in
theorem pout_any (n e s c : Int) (w : World) : Calls Tryz.prog 81 #[.int .i64 n, .agg #[.int .i64 e, .int .i64 s], .int .i64 c] w fun en w' => en = .returned (Pt.val ⟨n, true, e, s, c⟩) ∧ Bw w w' := by
  go_enter Tryz.func81, Tryz.ntmps81
  go_wp2_with fail
  refine bodyPost_ret (v := Pt.val ⟨n, true, e, s, c⟩) (by simp [results, Tryz.results81, go_sem, Pt.val]) rfl ⟨rfl, ?_⟩
  exact (by repeat (first | exact Bw.refl _ | assumption | refine Bw.drew ?_ | refine Bw.drewN ?_ _ | refine Bw.alloc ?_ _ | refine Bw.trans ?_ (by assumption)))

theorem alloc2 (w : World) (A B : Obj) : ((w.alloc A).alloc B).heap[w.heap.size]? = some A ∧ ((w.alloc A).alloc B).heap[w.heap.size + 1]? = some B ∧ Bw w ((w.alloc A).alloc B) := by
  refine ⟨(Below.block (show Bw (w.alloc A) _ from (by repeat (first | exact Bw.refl _ | assumption | refine Bw.drew ?_ | refine Bw.drewN ?_ _ | refine Bw.alloc ?_ _ | refine Bw.trans ?_ (by assumption)))) _ (by simp)).trans (heap_alloc_new w _), ?_, (by repeat (first | exact Bw.refl _ | assumption | refine Bw.drew ?_ | refine Bw.drewN ?_ _ | refine Bw.alloc ?_ _ | refine Bw.trans ?_ (by assumption)))⟩
  rw [show w.heap.size + 1 = (w.alloc A).heap.size by simp]; exact heap_alloc_new _ _
theorem CellsAt.below {w w' : World} {ad : Option Addr} {m : Nat} {news : List Value} (h : CellsAt w ad m news) (hb : Bw w w') : CellsAt w' ad m news := by
  intro hm
  obtain ⟨g, off, e, hc⟩ := h hm
  refine ⟨g, off, e, fun j u hj => ?_⟩
  have h1 := hc j u hj
  have hlt : g < w.heap.size := by
    rcases Nat.lt_or_ge g w.heap.size with h | h
    · exact h
    · rw [World.cell?, Array.getElem?_eq_none (by simpa using h)] at h1; simp at h1
  exact ((bcell hb).1 _ _ hlt).trans h1
theorem Tryz.infoChangeP : (Tryz.prog.info? 121).map (fun i => (i.zero, i.size, i.bytes)) = some (some (.agg #[.slice none 0 0]), 1, 24) := by kernel_rfl
set_option maxRecDepth 100000 in
set_option maxHeartbeats 2000000 in
theorem pchangeOf_any (ps : List Pt) (pa : Option Addr) (pc : Nat) (w : World) (hps : CellsAt w pa ps.length (ptsCells ps)) (hl : ps.length ≤ 1000) :
    Calls Tryz.prog 115 #[.slice pa ps.length pc] w fun en w' => ∃ v, en = .returned (.agg #[v]) ∧ OwnP w w' v ps ∧ Bw w w' := by
  obtain ⟨w0, hw0⟩ : ∃ w0, (w.alloc (.cells #[.slice none 0 0] 121)).alloc (.cells #[.slice none 0 0] 121) = w0 := ⟨_, rfl⟩
  have hA := alloc2 w (.cells #[.slice none 0 0] 121) (.cells #[.slice none 0 0] 121)
  rw [hw0] at hA
  obtain ⟨hc0, hv0, hB0⟩ := hA
  have a0 := cell_of_block (o := 0) hv0 rfl
  have al := (Array.getElem?_eq_some_iff.1 hv0).1
  have hps0 : CellsAt w0 pa ps.length (ptsCells ps) := hps.below hB0
  go_enter Tryz.func115, Tryz.ntmps115
  go_wp2_with (at_builtin; refine appG w0 rfl _ _ _ 67 rfl _ 5 40 Tryz.infoPoint Tryz.underlying63 rfl (by decide) w.heap.size (.slice none 0 0) 0 [] rfl (World.ownsRow_nil _ _ _ _) _ ps.length _ (ptsCells ps) rfl (ptsCells_len ps) hps0 (pts_one ps) (by omega) (by omega) (Bw.size hB0) ?_; intro v1 w2 hown2 hgr2 hl2; have hB2 := bw_grown hgr2; rw [Nat.zero_add, List.nil_append] at hown2; have hb2 := (Below.block hB2 _ (Array.getElem?_eq_some_iff.1 hv0).1).trans hv0; have e0 := cell_of_block (o := 0) hb2 rfl; have ef := frozen_of_block (o := 0) hb2; have el := (Array.getElem?_eq_some_iff.1 hb2).1; have hcb2 := (Below.block hB2 _ (Array.getElem?_eq_some_iff.1 hc0).1).trans hc0; have f0 := cell_of_block (o := 0) hcb2 rfl; have ff := frozen_of_block (o := 0) hcb2; have fl := (Array.getElem?_eq_some_iff.1 hcb2).1; obtain ⟨va, vc, hve⟩ : ∃ va vc, v1 = .slice va ps.length vc := ⟨_, _, ownsRow_val hown2⟩; subst hve; have hdj : ¬ w.heap.size = w.heap.size + 1 := (by omega); have hcs := hide (heap_setCell_at (k := 0) (v := .slice va ps.length vc) (show (w2.setCell ⟨w.heap.size + 1, 0, none⟩ (.slice va ps.length vc)).heap[w.heap.size]? = _ from (Below.heap_setCell w2 ⟨w.heap.size + 1, 0, none⟩ _ w.heap.size hdj).trans hcb2)))
  have hds := cell_of_block (o := 0) (unhide hcs) rfl
  refine bodyPost_ret (v := .agg #[.slice va ps.length vc]) (by simp [results, Tryz.results115, go_sem, hds]) rfl ⟨_, rfl, ?_, ?_⟩
  · exact ownsRow_setT ((Below.heap_setCell w2 ⟨w.heap.size + 1, 0, none⟩ _ w.heap.size hdj).trans hcb2) (ownsRow_setT hb2 hown2 (by decide)) (by decide)
  · exact Bw.setCell (Bw.setCell (hB0.trans hB2) (by simp) _) (by simp) _
end Go.Proofs.YtfemleimkbjehaaGreat
