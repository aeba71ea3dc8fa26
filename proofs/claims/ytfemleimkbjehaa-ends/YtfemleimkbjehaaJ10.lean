import Derived.Test.YtfemleimkbjehaaJ9
import Derived.Deep.MidRow
import Derived.Test.YtfemleimkbjehaaJ7
set_option maxRecDepth 1000000
set_option maxHeartbeats 40000000
set_option linter.unusedVariables false
set_option linter.unusedSimpArgs false
namespace Go.Proofs.Ytfemleimkbjehaa
open Go.RowKit
theorem Try.infoTime : (Try.prog.info? 75).map (fun i => (i.zero, i.size, i.bytes)) = some (some (.agg #[.int .i64 0, .int .i64 0]), 2, 16) := by kernel_rfl
structure Tm where
  e : Int
  s : Int
def Tm.cells (t : Tm) : List Value := [.int .i64 t.e, .int .i64 t.s]
def mZ (l : List Tm) (k : Nat) : Tm := l.getD k ⟨0, 0⟩
def vG (l : List Tm) : List Value := l.flatMap Tm.cells
def TmsAt (w : World) (ad : Option Addr) (ts : List Tm) : Prop :=
  ∀ i, i < ts.length → ∃ b off, ad = some ⟨b, off, none⟩ ∧ b < w.heap.size ∧ ∀ j, j < ts.length → w.cell? ⟨b, off + j * 2, none⟩ = some (.int .i64 (mZ ts j).e) ∧ w.cell? ⟨b, off + j * 2 + 1, none⟩ = some (.int .i64 (mZ ts j).s)
theorem TmsAt.below {w w' : World} {ad : Option Addr} {ts : List Tm} (h : TmsAt w ad ts) (hb : Bw w w') : TmsAt w' ad ts := by
  intro i hi
  obtain ⟨b, off, e, hlt, hc⟩ := h i hi
  refine ⟨b, off, e, Nat.lt_of_lt_of_le hlt hb.size, fun j hj => ?_⟩
  obtain ⟨q, _⟩ := qX hb
  obtain ⟨c0, c1⟩ := hc j hj
  exact ⟨(q _ _ hlt).trans c0, (q _ _ hlt).trans c1⟩
def OwnT (W w : World) (v : Value) (ts : List Tm) : Prop := w.ownsRow W.heap.size 75 2 v ts.length (vG ts)
theorem OwnT.nil (W w : World) : OwnT W w (.slice none 0 0) [] := World.ownsRow_nil _ _ _ _
theorem OwnT.bw {W a b : World} {v : Value} {ts : List Tm} (h : OwnT W a v ts) (hb : Bw a b) : OwnT W b v ts := qP h fun g hg => Below.block hb g hg
theorem OwnT.weaken {W V a : World} {v : Value} {ts : List Tm} (h : OwnT W a v ts) (hb : Bw V W) : OwnT V a v ts := kW h hb.size
theorem OwnT.snoc {W w : World} {v : Value} {ts : List Tm} {t : Tm} (h : w.ownsRow W.heap.size 75 2 v (ts.length + 1) (vG ts ++ t.cells)) : OwnT W w v (ts ++ [t]) := by
  unfold OwnT; rw [show vG (ts ++ [t]) = vG ts ++ t.cells by simp [vG], List.length_append]; exact h
theorem tmsAt_of {w : World} {v : Value} {base : Nat} {ty : TypeId} {ts : List Tm} (h : w.ownsRow base ty 2 v ts.length (vG ts)) : TmsAt w (vP v) ts := by
  intro i hi
  obtain ⟨g, e, hg, hc⟩ := vT h (by omega)
  refine ⟨g, 0, e, hg, fun j hj => ?_⟩
  have key : ∀ f u, f < 2 → (Tm.cells (mZ ts j))[f]? = some u → w.cell? ⟨g, 0 + j * 2 + f, none⟩ = some u := fun f u hf hu => by
    rw [Nat.zero_add]; exact hc _ _ (by unfold vG; rw [mP (f := Tm.cells) (k := 2) (d := ⟨0, 0⟩) (fun a => rfl) ts j hj f hf]; exact hu)
  exact ⟨key 0 _ (by omega) rfl, key 1 _ (by omega) rfl⟩
theorem tm_cells {w : World} {g : Nat} {t : Tm} (h0 : w.cell? ⟨g, 0, none⟩ = some (.int .i64 t.e)) (h1 : w.cell? ⟨g, 1, none⟩ = some (.int .i64 t.s)) : ∀ j u, t.cells[j]? = some u → w.cell? ⟨g, j, none⟩ = some u := by
  intro j u hj
  unfold Tm.cells at hj
  match j, hj with
  | 0, hj => simp at hj; subst hj; exact h0
  | 1, hj => simp at hj; subst hj; exact h1
theorem tm_one (t : Tm) : ∀ u ∈ t.cells, u.oneCell' = true := by
  intro u hu
  simp [Tm.cells] at hu
  rcases hu with rfl | rfl <;> rfl
def comB (ns : List Nd) (D : Nat → Nat → Int) (R : Nat) (ps : List Pt) (y i : Nat) : Bool := decide (0 < (vU ps i).count) && (decide (0 ≤ jL ns D (vU ps i).node.toNat (vU ps i).out (vU ps i).round.toNat y) && decide (jL ns D (vU ps i).node.toNat (vU ps i).out (vU ps i).round.toNat y < R))
def yF (ns : List Nd) (D : Nat → Nat → Int) (R : Nat) (ps : List Pt) (y : Nat) : Nat → List Tm
  | 0 => []
  | i + 1 => if comB ns D R ps y i then yF ns D R ps y i ++ [⟨(vU ps i).epoch, jL ns D (vU ps i).node.toNat (vU ps i).out (vU ps i).round.toNat y⟩] else yF ns D R ps y i
theorem comTo_yes {ns : List Nd} {D : Nat → Nat → Int} {R : Nat} {ps : List Pt} {y i : Nat} (h : comB ns D R ps y i = true) : yF ns D R ps y (i + 1) = yF ns D R ps y i ++ [⟨(vU ps i).epoch, jL ns D (vU ps i).node.toNat (vU ps i).out (vU ps i).round.toNat y⟩] := by rw [yF, if_pos h]
theorem comTo_no {ns : List Nd} {D : Nat → Nat → Int} {R : Nat} {ps : List Pt} {y i : Nat} (h : comB ns D R ps y i = false) : yF ns D R ps y (i + 1) = yF ns D R ps y i := by rw [yF, h]; rfl
def eqB (a : Tm) (e s : Nat) : Bool := (a.e == (e : Int)) && (a.s == (s : Int))
def upB (a : Tm) (e s : Nat) : Bool := decide (a.e ≤ (e : Int)) && decide (a.s ≤ (s : Int))
def inTo (ts : List Tm) (e s : Nat) : Nat → Bool
  | 0 => false
  | i + 1 => inTo ts e s i || eqB (mZ ts i) e s
theorem vN_ok (T : Nat → Int) (R L : Nat) : ∀ p ∈ vN T R L, tQ L R p := by
  have hS : ∀ n k e, n < L → e < 6 → ∀ s, s ≤ R → ∀ p ∈ vS T R n k e s, tQ L R p := by
    intro n k e hn he s
    induction s with
    | zero => intro _ p hp; simp [vS] at hp
    | succ s ih =>
      intro hs p hp
      unfold vS at hp
      split at hp
      · exact ih (by omega) p hp
      · rcases List.mem_append.1 hp with hp | hp
        · exact ih (by omega) p hp
        · simp at hp; subst hp; exact ⟨n, e, s, rfl, hn, rfl, he, rfl, by omega⟩
  have hE : ∀ n k, n < L → ∀ e, e ≤ 6 → ∀ p ∈ vE T R n k e, tQ L R p := by
    intro n k hn e
    induction e with
    | zero => intro _ p hp; simp [vE] at hp
    | succ e ih =>
      intro he p hp
      rcases List.mem_append.1 hp with hp | hp
      · exact ih (by omega) p hp
      · exact hS n k e hn (by omega) R (Nat.le_refl _) p hp
  have hK : ∀ n, n < L → ∀ k, ∀ p ∈ vK T R n k, tQ L R p := by
    intro n hn k
    induction k with
    | zero => intro p hp; simp [vK] at hp
    | succ k ih =>
      intro p hp
      rcases List.mem_append.1 hp with hp | hp
      · exact ih p hp
      · exact hE n k hn 6 (Nat.le_refl _) p hp
  have hN : ∀ n, n ≤ L → ∀ p ∈ vN T R n, tQ L R p := by
    intro n
    induction n with
    | zero => intro _ p hp; simp [vN] at hp
    | succ n ih =>
      intro hn p hp
      rcases List.mem_append.1 hp with hp | hp
      · exact ih (by omega) p hp
      · exact hK n (by omega) 2 p hp
  exact hN L (Nat.le_refl _)
theorem tP {ps : List Pt} {j : Nat} (h : j < ps.length) : vU ps j ∈ ps := by
  unfold vU; rw [lS _ _ h]; exact List.getElem_mem h
def uY (c : Nat → Bool) : Nat → Nat
  | 0 => 0
  | b + 1 => if uY c b < b then uY c b else if c b then b else b + 1
theorem nR (c : Nat → Bool) (b : Nat) : uY c b ≤ b := by
  induction b with
  | zero => simp [uY]
  | succ b ih => unfold uY; split <;> (try split) <;> omega
theorem fstS_no (c : Nat → Bool) (b : Nat) : ∀ j, j < uY c b → c j = false := by
  induction b with
  | zero => intro j h; simp [uY] at h
  | succ b ih =>
    intro j h
    have hle := nR c b
    unfold uY at h
    split at h
    · exact ih j h
    · have e : uY c b = b := by omega
      split at h
      · exact ih j (by omega)
      · rename_i hc
        by_cases hj : j < b
        · exact ih j (by omega)
        · have : j = b := by omega
          subst this
          simpa using hc
theorem fstS_yes (c : Nat → Bool) (b : Nat) : uY c b < b → c (uY c b) = true := by
  induction b with
  | zero => intro h; simp [uY] at h
  | succ b ih =>
    intro h
    have hle := nR c b
    unfold uY at h ⊢
    split
    · rename_i h1; exact ih h1
    · rename_i h1
      rw [if_neg h1] at h
      split
      · assumption
      · rename_i hc; rw [if_neg hc] at h; omega
theorem fstS_eq {c : Nat → Bool} {b s : Nat} (hs : s < b) (hc : c s = true) (hn : ∀ j, j < s → c j = false) : uY c b = s := by
  have h1 := fstS_no c b
  have hle := nR c b
  rcases Nat.lt_trichotomy (uY c b) s with h | h | h
  · have := fstS_yes c b (by omega)
    rw [hn _ h] at this
    cases this
  · exact h
  · rw [h1 s h] at hc; cases hc
theorem fstS_none {c : Nat → Bool} {b : Nat} (hn : ∀ j, j < b → c j = false) : uY c b = b := by
  have hle := nR c b
  rcases Nat.lt_or_ge (uY c b) b with h | h
  · have := fstS_yes c b h
    rw [hn _ h] at this
    cases this
  · omega
def yB (C : Nat → Nat → Bool) : Nat → Nat
  | 0 => 4
  | e + 1 => uY (C e) (yB C e)
def wW (C : Nat → Nat → Bool) : Nat → List Tm
  | 0 => []
  | e + 1 => if uY (C e) (yB C e) < yB C e then wW C e ++ [⟨e, (uY (C e) (yB C e) : Nat)⟩] else wW C e
theorem belE_le (C : Nat → Nat → Bool) (e : Nat) : yB C e ≤ 4 := by
  induction e with
  | zero => simp [yB]
  | succ e ih => have := nR (C e) (yB C e); unfold yB; omega
theorem lstE_len (C : Nat → Nat → Bool) (e : Nat) : (wW C e).length ≤ e := by
  induction e with
  | zero => simp [wW]
  | succ e ih => unfold wW; split <;> (try simp) <;> omega
set_option maxRecDepth 100000 in
set_option maxHeartbeats 4000000 in
theorem pleast_any (C : Nat → Nat → Bool) (arr : Array Value) (w : World) (hs : arr.size = 24) (hC : ∀ e s, e < 6 → s < 4 → arr[e * 4 + s]? = some (.bool (C e s))) :
    Calls Try.prog 119 #[.agg arr] w fun en w' => ∃ v, en = .returned v ∧ OwnT w w' v (wW C 6) ∧ Bw w w' := by
  go_enter Try.func119, Try.ntmps119
  go_wp2_with fail
  obtain ⟨w0, hw0⟩ : ∃ w0, w.alloc (.cells arr 192) = w0 := ⟨_, rfl⟩
  rw [hw0]
  obtain ⟨hb0, hB0⟩ : w0.heap[w.heap.size]? = some (.cells arr 192 (0, 0)) ∧ Bw w w0 := by
    rw [← hw0]; exact ⟨heap_alloc_new w _, (by repeat first|exact br _|assumption|apply bd|apply bn|apply ba|refine bt ?_ (by assumption))⟩
  clear hw0
  obtain ⟨cb, hcb⟩ : ∃ cb, w.heap.size = cb := ⟨_, rfl⟩
  rw [hcb] at hb0
  rw [hcb]
  clear hcb
  have Hb0 := qJ hb0
  have HC := qJ hC
  clear hb0 hC
  go_loopw [3, 4, 5] (fun v b i wr => ∃ e : Nat, e ≤ 6 ∧ i = .int .i64 e ∧ b = .int .i64 (yB C e : Nat) ∧ OwnT w0 wr v (wW C e) ∧ Bw w0 wr) (fun _ _ i _ => 6 - (intOf i).toNat)
  case atStart => exact ⟨0, Nat.zero_le _, rfl, rfl, OwnT.nil _ _, Bw.refl _⟩
  case round =>
    obtain ⟨e, he, rfl, rfl, hown, hB⟩ := hrel
    rename World => wo
    have hle := lstE_len C e
    have hb4 := belE_le C e
    by_cases hlt : e < 6
    · have hl1 : decide ((e : Int) ≤ 5) = true := by simp; omega
      have Hb1 : Hid (yB C (e + 1) = uY (C e) (yB C e)) := qJ rfl
      have Hl1 : Hid (wW C (e + 1) = if uY (C e) (yB C e) < yB C e then wW C e ++ [⟨e, (uY (C e) (yB C e) : Nat)⟩] else wW C e) := qJ rfl
      have Hno := qJ (@fstS_none (C e) (yB C e))
      have Hyes := qJ (fun (s : Nat) (a : s < yB C e) (b : C e s = true) (c : ∀ j, j < s → C e j = false) => fstS_eq a b c)
      obtain ⟨L1, hL1⟩ : ∃ L1, wW C (e + 1) = L1 := ⟨_, rfl⟩
      obtain ⟨B1, hB1e⟩ : ∃ B1, yB C (e + 1) = B1 := ⟨_, rfl⟩
      rw [hL1] at Hl1
      rw [hB1e] at Hb1
      have HL1 := qJ hL1
      have HB1e := qJ hB1e
      clear hL1 hB1e
      generalize yB C e = B at *
      generalize wW C e = L at *
      generalize uY (C e) B = F at *
      go_wp2_with fail
      go_loopw [3, 4, 6] (fun v b i wr => ∃ s : Nat, i = .int .i64 s ∧ Bw w0 wr ∧ ((s ≤ B ∧ b = .int .i64 (B : Nat) ∧ OwnT w0 wr v L ∧ ∀ j, j < s → C e j = false) ∨ (1 ≤ s ∧ s ≤ B ∧ b = .int .i64 (B1 : Nat) ∧ B1 + 1 = s ∧ OwnT w0 wr v L1))) (fun _ _ i _ => 5 - (intOf i).toNat)
      case atStart => exact ⟨0, rfl, hB, .inl ⟨Nat.zero_le _, rfl, hown, fun j hj => absurd hj (Nat.not_lt_zero j)⟩⟩
      case round =>
        clear hown hB
        obtain ⟨s, rfl, hB, ⟨hsB, rfl, hown, hnone⟩ | ⟨hs1, hsB, rfl, hB1, hown⟩⟩ := hrel
        · by_cases hsl : s < B
          · have hwb := (Below.block hB _ (Array.getElem?_eq_some_iff.1 (qK Hb0)).1).trans (qK Hb0)
            have hc := qQ hwb ((qK HC) e s hlt (by omega))
            have hcl := (Array.getElem?_eq_some_iff.1 hwb).1
            have he6 : (e : Int) < 6 := by omega
            have hs4 : (s : Int) < 4 := by omega
            have hd1 : decide ((s : Int) < (B : Int)) = true := by simp; omega
            cases hcc : C e s with
            | false =>
              rw [hcc] at hc
              have Hnone : Hid (∀ j, j < s + 1 → C e j = false) := qJ (fun j hj => by
                by_cases h : j < s
                · exact hnone j h
                · have : j = s := by omega
                  subst this; exact hcc)
              clear hnone hcc hwb
              go_wp2_with fail
              go_roundw
              case rel => exact ⟨s + 1, by go_num, hB, .inl ⟨by omega, rfl, hown, qK Hnone⟩⟩
              case measure => simp [intOf]; omega
            | true =>
              rw [hcc] at hc
              have hF := (qK Hyes) s hsl hcc hnone
              have HL : Hid (L1 = L ++ [⟨e, (s : Int)⟩]) := qJ (by rw [qK Hl1, hF, if_pos hsl])
              have HB1 : Hid (B1 = s) := qJ (by rw [qK Hb1, hF])
              clear hF hcc hnone hwb
              go_wp2_with (at_builtin; refine appL _ rfl _ _ _ 75 rfl _ 2 16 Try.infoTime Try.underlying78 rfl (by decide) w0.heap.size _ L.length (vG L) rfl (hown.bw (by repeat first|exact br _|assumption|apply bd|apply bn|apply ba|refine bt ?_ (by assumption))) _ _ (Tm.cells ⟨e, s⟩) rfl rfl (tm_cells (qQ (qM _ _ (by simp)) rfl) (qQ (qM _ _ (by simp)) rfl)) (tm_one _) (by omega) (by omega) (Bw.size (show Bw w0 _ from (by repeat first|exact br _|assumption|apply bd|apply bn|apply ba|refine bt ?_ (by assumption)))) ?_; intro g6 cap6 w6 ho6 hg6 hl6)
              go_roundw
              case rel =>
                refine ⟨s + 1, by go_num, ?_, .inr ⟨by omega, by omega, by rw [qK HB1], by rw [qK HB1], by rw [qK HL]; exact OwnT.snoc ho6⟩⟩
                exact rK (W := w0) (hown.bw (show Bw wr (wr.alloc (.cells #[.int .i64 (e : Int), .int .i64 (s : Int)] 75)) from (by repeat first|exact br _|assumption|apply bd|apply bn|apply ba|refine bt ?_ (by assumption)))) hg6 (hB.alloc _) (Nat.le_refl _)
              case measure => simp [intOf]; omega
          · have hss : s = B := by omega
            subst hss
            have hF := (qK Hno) hnone
            have HL : Hid (L1 = L) := qJ (by rw [qK Hl1, hF, if_neg (by omega)])
            have HB1 : Hid (B1 = s) := qJ (by rw [qK Hb1, hF])
            have hd1 : decide ((s : Int) < (s : Int)) = false := by simp
            clear hF hnone
            go_wp2_with fail
            go_roundw
            case rel => exact ⟨e + 1, by omega, by go_num, by rw [qK HB1e, qK HB1], by rw [qK HL1, qK HL]; exact hown, hB⟩
            case measure => simp [intOf]; omega
        · have hd1 : decide ((s : Int) < (B1 : Int)) = false := by simp; omega
          have hsn : ¬ s < B1 := by omega
          clear hB1
          go_wp2_with fail
          go_roundw
          case rel => exact ⟨e + 1, by omega, by go_num, by rw [qK HB1e], by rw [qK HL1]; exact hown, hB⟩
          case measure => simp [intOf]; omega
    · have hee : e = 6 := by omega
      subst hee
      go_wp2_with fail
      go_ret
      exact ⟨_, rfl, hown.weaken hB0, hB0.trans hB⟩
theorem alloc3 (w : World) (A B C : Obj) : (((w.alloc A).alloc B).alloc C).heap[w.heap.size]? = some A ∧ (((w.alloc A).alloc B).alloc C).heap[w.heap.size + 1]? = some B ∧ (((w.alloc A).alloc B).alloc C).heap[w.heap.size + 1 + 1]? = some C ∧ Bw w (((w.alloc A).alloc B).alloc C) := by
  refine ⟨(Below.block (show Bw (w.alloc A) _ from (by repeat first|exact br _|assumption|apply bd|apply bn|apply ba|refine bt ?_ (by assumption))) _ (by simp)).trans (heap_alloc_new w _), ?_, ?_, (by repeat first|exact br _|assumption|apply bd|apply bn|apply ba|refine bt ?_ (by assumption))⟩
  · have h : ((w.alloc A).alloc B).heap[w.heap.size + 1]? = some B := by rw [show w.heap.size + 1 = (w.alloc A).heap.size by simp]; exact heap_alloc_new _ _
    exact (Below.block (show Bw ((w.alloc A).alloc B) _ from (by repeat first|exact br _|assumption|apply bd|apply bn|apply ba|refine bt ?_ (by assumption))) _ (by simp)).trans h
  · rw [show w.heap.size + 1 + 1 = ((w.alloc A).alloc B).heap.size by simp]; exact heap_alloc_new _ _
def inT (ts : List Tm) (e s : Nat) : Bool := inTo ts e s ts.length
theorem inTo_app (ts : List Tm) (t : Tm) (e s : Nat) : ∀ i, i ≤ ts.length → inTo (ts ++ [t]) e s i = inTo ts e s i := by
  intro i
  induction i with
  | zero => intro _; rfl
  | succ i ih =>
    intro h
    rw [inTo, inTo, ih (by omega)]
    congr 1
    unfold mZ
    simp [List.getD, List.getElem?_append_left (show i < ts.length by omega)]
theorem inT_snoc (ts : List Tm) (t : Tm) (e s : Nat) : inT (ts ++ [t]) e s = (inT ts e s || eqB t e s) := by
  unfold inT
  rw [List.length_append, List.length_singleton, inTo, inTo_app ts t e s _ (Nat.le_refl _)]
  congr 2
  unfold mZ
  simp [List.getD]
theorem Try.sizeComing : (Try.prog.info? 192).map (·.size) = some 24 := by kernel_rfl
def ComIn (w : World) (cb : Nat) (C : Nat → Nat → Bool) : Prop := ∃ arr : Array Value, w.heap[cb]? = some (.cells arr 192 (0, 0)) ∧ arr.size = 24 ∧ ∀ e s, e < 6 → s < 4 → arr[e * 4 + s]? = some (.bool (C e s))
theorem ComIn.bw {w w' : World} {cb : Nat} {C : Nat → Nat → Bool} (h : ComIn w cb C) (hb : Bw w w') : ComIn w' cb C := by
  obtain ⟨arr, h1, r⟩ := h
  exact ⟨arr, (Below.block hb _ (Array.getElem?_eq_some_iff.1 h1).1).trans h1, r⟩
theorem ComIn.set {w : World} {cb e0 s0 : Nat} {C : Nat → Nat → Bool} (h : ComIn w cb C) (he : e0 < 6) (hs : s0 < 4) : ComIn (w.setCell ⟨cb, e0 * 4 + s0, none⟩ (.bool true)) cb (fun e s => C e s || eqB ⟨e0, s0⟩ e s) := by
  obtain ⟨arr, h1, h2, h3⟩ := h
  refine ⟨_, qY h1, by simpa using h2, fun e s h4 h5 => ?_⟩
  by_cases hq : e = e0 ∧ s = s0
  · obtain ⟨rfl, rfl⟩ := hq
    rw [Array.getElem?_setIfInBounds_self_of_lt (by omega)]
    simp [eqB]
  · rw [Array.getElem?_setIfInBounds_ne (by omega), h3 e s h4 h5]
    have : eqB ⟨(e0 : Int), (s0 : Int)⟩ e s = false := by
      simp only [eqB, Bool.and_eq_false_iff, beq_eq_false_iff_ne, ne_eq]
      by_cases h : e = e0
      · right; intro h'; apply hq; exact ⟨h, by omega⟩
      · left; omega
    simp only [this, Bool.or_false]
theorem ComIn.cell {w : World} {cb : Nat} {C : Nat → Nat → Bool} (h : ComIn w cb C) {e s : Nat} (he : e < 6) (hs : s < 4) : w.cell? ⟨cb, e * 4 + s, none⟩ = some (.bool (C e s)) ∧ w.frozen? ⟨cb, e * 4 + s, none⟩ = false ∧ cb < w.heap.size := by
  obtain ⟨arr, h1, _, h3⟩ := h
  exact ⟨qQ h1 (h3 e s he hs), qZ h1, (Array.getElem?_eq_some_iff.1 h1).1⟩
theorem ComIn.congr {w : World} {cb : Nat} {C C' : Nat → Nat → Bool} (h : ComIn w cb C) (hc : ∀ e s, e < 6 → s < 4 → C e s = C' e s) : ComIn w cb C' := by
  obtain ⟨arr, h1, h2, h3⟩ := h
  exact ⟨arr, h1, h2, fun e s h4 h5 => by rw [← hc e s h4 h5]; exact h3 e s h4 h5⟩
set_option maxRecDepth 100000 in
set_option maxHeartbeats 4000000 in
theorem pfrontier_any {ns : List Nd} {D : Nat → Nat → Int} {na da la : Option Addr} {nc dc lc R : Nat} (ps : List Pt) (y : Nat) (w : World) (hnd : NodesAt w na ns) (hdt : TabAt w da ns.length ns.length D) (hps : PtsAt w la ps) (h8 : ns.length ≤ 8) (hR : R ≤ 4) (hy : y < ns.length) (hD : ∀ a b, D a b ≤ 1000) (hD1 : ∀ a b, -1 ≤ D a b) (hok : ∀ p ∈ ps, tQ ns.length R p) (hl : ps.length ≤ 1000) :
    Calls Try.prog 88 #[.agg #[.slice na ns.length nc, .int .i64 (R : Int)], .agg #[.slice da ns.length dc], .slice la ps.length lc, .int .i64 (y : Int)] w fun en w' => ∃ v, en = .returned v ∧ OwnT w w' v (wW (inT (yF ns D R ps y ps.length)) 6) ∧ Bw w w' := by
  go_enter Try.func88, Try.ntmps88
  go_wp2_with fail
  obtain ⟨w0, hw0⟩ : ∃ w0, ((w.alloc (.cells #[.slice na ns.length nc, .int .i64 (R : Int)] 24)).alloc (.cells #[.slice da ns.length dc] 101)).alloc (.cells #[.bool false, .bool false, .bool false, .bool false, .bool false, .bool false, .bool false, .bool false, .bool false, .bool false, .bool false, .bool false, .bool false, .bool false, .bool false, .bool false, .bool false, .bool false, .bool false, .bool false, .bool false, .bool false, .bool false, .bool false] 192) = w0 := ⟨_, rfl⟩
  have hA := alloc3 w (.cells #[.slice na ns.length nc, .int .i64 (R : Int)] 24) (.cells #[.slice da ns.length dc] 101) (.cells #[.bool false, .bool false, .bool false, .bool false, .bool false, .bool false, .bool false, .bool false, .bool false, .bool false, .bool false, .bool false, .bool false, .bool false, .bool false, .bool false, .bool false, .bool false, .bool false, .bool false, .bool false, .bool false, .bool false, .bool false] 192)
  rw [hw0] at hA
  rw [hw0]
  obtain ⟨hg0, hd0, hc0, hB0⟩ := hA
  clear hw0
  obtain ⟨gb, hgb⟩ : ∃ gb, w.heap.size = gb := ⟨_, rfl⟩
  rw [hgb] at hg0 hd0 hc0
  rw [hgb]
  obtain ⟨db, hdb⟩ : ∃ db, gb + 1 = db := ⟨_, rfl⟩
  obtain ⟨cb, hcb⟩ : ∃ cb, gb + 1 + 1 = cb := ⟨_, rfl⟩
  rw [hcb] at hc0
  rw [hdb] at hd0
  simp only [hcb]
  simp only [hdb]
  have hq : w.heap.size ≤ cb ∧ gb ≠ cb ∧ db ≠ cb := by omega
  clear hgb hdb hcb
  have hcom0 : ComIn w0 cb (inT (yF ns D R ps y 0)) := ⟨_, hc0, rfl, fun e s h4 h5 => by
    have : inT (yF ns D R ps y 0) e s = false := rfl
    rw [this]
    have hk : e * 4 + s < 24 := by omega
    generalize e * 4 + s = k at hk
    match k, hk with
    | (m + 24), hm => exact absurd hm (by omega)
    | 0, _ | 1, _ | 2, _ | 3, _ | 4, _ | 5, _ | 6, _ | 7, _ | 8, _ | 9, _ | 10, _ | 11, _ | 12, _ | 13, _ | 14, _ | 15, _ | 16, _ | 17, _ | 18, _ | 19, _ | 20, _ | 21, _ | 22, _ | 23, _ => rfl⟩
  go_loopw [15] (fun i wr => ∃ k : Nat, k ≤ ps.length ∧ i = .int .i64 k ∧ ComIn wr cb (inT (yF ns D R ps y k)) ∧ wr.heap[gb]? = some (.cells #[.slice na ns.length nc, .int .i64 (R : Int)] 24 (0, 0)) ∧ wr.heap[db]? = some (.cells #[.slice da ns.length dc] 101 (0, 0)) ∧ Bw w wr) (fun i _ => ps.length - (intOf i).toNat)
  case atStart => exact ⟨0, Nat.zero_le _, rfl, hcom0, hg0, hd0, hB0⟩
  case round =>
    clear hcom0 hg0 hd0 hB0 hc0
    obtain ⟨k, hk, rfl, hcom, hg, hd, hB⟩ := hrel
    rename World => wr
    have g0 := qQ (o := 0) hg rfl
    have g1 := qQ (o := 1) hg rfl
    have gl := (Array.getElem?_eq_some_iff.1 hg).1
    have dd0 := qQ (o := 0) hd rfl
    have dl := (Array.getElem?_eq_some_iff.1 hd).1
    have Hg := qJ hg
    have Hd := qJ hd
    have Hcom := qJ hcom
    clear hg hd hcom
    by_cases hlt : k < ps.length
    · have hpk := hok _ (tP hlt)
      have Hcan := qJ (canB_of hpk h8 hR)
      obtain ⟨pb, poff, rfl, hpb, hpc⟩ := (hps.below hB) k hlt
      obtain ⟨p0, p1, p2, p3, p4⟩ := hpc k hlt
      clear hpc
      obtain ⟨n, ep, s, h1, h2, h3, h4, h5, h6⟩ := hpk
      have Hyes := qJ (@comTo_yes ns D R ps y k)
      have Hno := qJ (@comTo_no ns D R ps y k)
      have Hcb : Hid (comB ns D R ps y k = (decide (0 < (vU ps k).count) && (decide (0 ≤ jL ns D n (vU ps k).out s y) && decide (jL ns D n (vU ps k).out s y < R)))) := qJ (by unfold comB; rw [h1, h5]; rfl)
      rw [h1, h3, h5, Int.toNat_natCast, Int.toNat_natCast] at Hyes
      rw [h1] at p0
      rw [h3] at p2
      rw [h5] at p3
      have Hp : Hid (vU ps k = ⟨n, (vU ps k).out, ep, s, (vU ps k).count⟩) := qJ (by cases hq : vU ps k; simp [hq] at h1 h3 h5; simp [h1, h3, h5])
      rw [qK Hp] at Hcan
      clear h1 h3 h5 Hp
      have Hf := qJ (fun (w' : World) (hB' : Bw w w') => pfirst_any (na := na) (da := da) (nc := nc) (dc := dc) n ep s y (R : Int) (vU ps k).out (vU ps k).count w' (hnd.below hB') (hdt.below hB') h8 h2 hy (by omega) (hD n y) (hD1 n y))
      have Hcbe := qJ (fun w => pcanBe_any ⟨n, (vU ps k).out, ep, s, (vU ps k).count⟩ w)
      generalize (vU ps k).out = ou at *
      generalize (vU ps k).count = ct at *
      generalize jL ns D n ou s y = z at *
      by_cases hct : 0 < ct
      · have hct1 : decide (ct ≤ 0) = false := by simp; omega
        have hct2 : decide (0 < ct) = true := by simpa using hct
        by_cases hz0 : 0 ≤ z
        · obtain ⟨zn, rfl⟩ := Int.eq_ofNat_of_zero_le hz0
          by_cases hzR : zn < R
          · have hz1 : decide ((0 : Int) ≤ (zn : Int)) = true := by simp
            have hz2 : decide ((zn : Int) < (R : Int)) = true := by simp; omega
            have hz3 : decide ((zn : Int) < 4) = true := by simp; omega
            have hz4 : (zn : Int) < 4 := by omega
            have he6 : (ep : Int) < 6 := by omega
            have Hs := qJ ((qK Hyes) (by rw [qK Hcb, hct2, hz1, hz2]; rfl))
            clear Hyes Hno Hcb hz0
            go_wp2_with (first | (go_at_call 117; refine ((qK Hcbe) _).mono ?_; rintro en w1 ⟨rfl, hb1⟩; rw [qK Hcan]; have hw1 : Bw wr w1 := (by repeat first|exact br _|assumption|apply bd|apply bn|apply ba|refine bt ?_ (by assumption)); have hx1 := (Below.block hb1 wr.heap.size (by simp)).trans (heap_alloc_new wr _); have x0 := qQ (o := 0) hx1 rfl; have x1 := qQ (o := 1) hx1 rfl; have x2 := qQ (o := 2) hx1 rfl; have x3 := qQ (o := 3) hx1 rfl; have x4 := qQ (o := 4) hx1 rfl; have xl := (Array.getElem?_eq_some_iff.1 hx1).1; have Hx1 := qJ hx1; have hg1 := (Below.block hw1 _ gl).trans (qK Hg); have e0 := qQ (o := 0) hg1 rfl; have e1 := qQ (o := 1) hg1 rfl; have el := (Array.getElem?_eq_some_iff.1 hg1).1; have hd1 := (Below.block hw1 _ dl).trans (qK Hd); have f0 := qQ (o := 0) hd1 rfl; have fl := (Array.getElem?_eq_some_iff.1 hd1).1; clear hg1 hd1 hx1) | (go_at_call 118; refine ((qK Hf) _ (hB.trans hw1)).mono ?_; rintro en w2 ⟨rfl, hb2⟩; have hw2 : Bw wr w2 := hw1.trans hb2; have hx2 := (Below.block hb2 _ xl).trans (qK Hx1); have y2 := qQ (o := 2) hx2 rfl; have yl := (Array.getElem?_eq_some_iff.1 hx2).1; have hg2 := (Below.block hw2 _ gl).trans (qK Hg); have k1 := qQ (o := 1) hg2 rfl; have kl := (Array.getElem?_eq_some_iff.1 hg2).1; have Hcom2 := qJ ((qK Hcom).bw hw2); have Hg2 := qJ hg2; have Hd2 := qJ ((Below.block hw2 _ dl).trans (qK Hd)); clear hg2 hx2; obtain ⟨q0, q1, q2⟩ := (qK Hcom2).cell h4 (show zn < 4 by omega)))
            go_roundw
            case rel =>
              refine ⟨k + 1, by omega, by go_num, ?_, ?_, ?_, ?_⟩
              · rw [qK Hs]
                exact ((qK Hcom2).set h4 (show zn < 4 by omega)).congr fun e s _ _ => (inT_snoc _ _ e s).symm
              · exact (Below.heap_setCell w2 ⟨cb, ep * 4 + zn, none⟩ _ gb hq.2.1).trans (qK Hg2)
              · exact (Below.heap_setCell w2 ⟨cb, ep * 4 + zn, none⟩ _ db hq.2.2).trans (qK Hd2)
              · exact Chg.toBw (S := fun b => b = cb) (hB.trans hw2) (qB _ _ _ _) (fun x hx => hx ▸ hq.1)
            case measure => simp [intOf]; omega
          · have hz2 : decide ((zn : Int) < (R : Int)) = false := by simp; omega
            have hz1 : decide ((0 : Int) ≤ (zn : Int)) = true := by simp
            have hz5 : ¬ zn < R := hzR
            have Hs := qJ ((qK Hno) (by rw [qK Hcb, hct2, hz1, hz2]; rfl))
            clear Hyes Hno Hcb hz0
            go_wp2_with (first | (go_at_call 117; refine ((qK Hcbe) _).mono ?_; rintro en w1 ⟨rfl, hb1⟩; rw [qK Hcan]; have hw1 : Bw wr w1 := (by repeat first|exact br _|assumption|apply bd|apply bn|apply ba|refine bt ?_ (by assumption)); have hx1 := (Below.block hb1 wr.heap.size (by simp)).trans (heap_alloc_new wr _); have x0 := qQ (o := 0) hx1 rfl; have x1 := qQ (o := 1) hx1 rfl; have x2 := qQ (o := 2) hx1 rfl; have x3 := qQ (o := 3) hx1 rfl; have x4 := qQ (o := 4) hx1 rfl; have xl := (Array.getElem?_eq_some_iff.1 hx1).1; have Hx1 := qJ hx1; have hg1 := (Below.block hw1 _ gl).trans (qK Hg); have e0 := qQ (o := 0) hg1 rfl; have e1 := qQ (o := 1) hg1 rfl; have el := (Array.getElem?_eq_some_iff.1 hg1).1; have hd1 := (Below.block hw1 _ dl).trans (qK Hd); have f0 := qQ (o := 0) hd1 rfl; have fl := (Array.getElem?_eq_some_iff.1 hd1).1; clear hg1 hd1 hx1) | (go_at_call 118; refine ((qK Hf) _ (hB.trans hw1)).mono ?_; rintro en w2 ⟨rfl, hb2⟩; have hw2 : Bw wr w2 := hw1.trans hb2; have hx2 := (Below.block hb2 _ xl).trans (qK Hx1); have y2 := qQ (o := 2) hx2 rfl; have yl := (Array.getElem?_eq_some_iff.1 hx2).1; have hg2 := (Below.block hw2 _ gl).trans (qK Hg); have k1 := qQ (o := 1) hg2 rfl; have kl := (Array.getElem?_eq_some_iff.1 hg2).1; have Hcom2 := qJ ((qK Hcom).bw hw2); have Hg2 := qJ hg2; have Hd2 := qJ ((Below.block hw2 _ dl).trans (qK Hd)); clear hg2 hx2))
            go_roundw
            case rel => exact ⟨k + 1, by omega, by go_num, by rw [qK Hs]; exact qK Hcom2, qK Hg2, qK Hd2, hB.trans hw2⟩
            case measure => simp [intOf]; omega
        · have hz1 : decide (0 ≤ z) = false := by simpa using hz0
          have Hs := qJ ((qK Hno) (by rw [qK Hcb, hct2, hz1]; rfl))
          clear Hyes Hno Hcb
          go_wp2_with (first | (go_at_call 117; refine ((qK Hcbe) _).mono ?_; rintro en w1 ⟨rfl, hb1⟩; rw [qK Hcan]; have hw1 : Bw wr w1 := (by repeat first|exact br _|assumption|apply bd|apply bn|apply ba|refine bt ?_ (by assumption)); have hx1 := (Below.block hb1 wr.heap.size (by simp)).trans (heap_alloc_new wr _); have x0 := qQ (o := 0) hx1 rfl; have x1 := qQ (o := 1) hx1 rfl; have x2 := qQ (o := 2) hx1 rfl; have x3 := qQ (o := 3) hx1 rfl; have x4 := qQ (o := 4) hx1 rfl; have xl := (Array.getElem?_eq_some_iff.1 hx1).1; have Hx1 := qJ hx1; have hg1 := (Below.block hw1 _ gl).trans (qK Hg); have e0 := qQ (o := 0) hg1 rfl; have e1 := qQ (o := 1) hg1 rfl; have el := (Array.getElem?_eq_some_iff.1 hg1).1; have hd1 := (Below.block hw1 _ dl).trans (qK Hd); have f0 := qQ (o := 0) hd1 rfl; have fl := (Array.getElem?_eq_some_iff.1 hd1).1; clear hg1 hd1 hx1) | (go_at_call 118; refine ((qK Hf) _ (hB.trans hw1)).mono ?_; rintro en w2 ⟨rfl, hb2⟩; have hw2 : Bw wr w2 := hw1.trans hb2; have hx2 := (Below.block hb2 _ xl).trans (qK Hx1); have y2 := qQ (o := 2) hx2 rfl; have yl := (Array.getElem?_eq_some_iff.1 hx2).1; have hg2 := (Below.block hw2 _ gl).trans (qK Hg); have k1 := qQ (o := 1) hg2 rfl; have kl := (Array.getElem?_eq_some_iff.1 hg2).1; have Hcom2 := qJ ((qK Hcom).bw hw2); have Hg2 := qJ hg2; have Hd2 := qJ ((Below.block hw2 _ dl).trans (qK Hd)); clear hg2 hx2))
          go_roundw
          case rel => exact ⟨k + 1, by omega, by go_num, by rw [qK Hs]; exact qK Hcom2, qK Hg2, qK Hd2, hB.trans hw2⟩
          case measure => simp [intOf]; omega
      · have hct1 : decide (ct ≤ 0) = true := by simp; omega
        have Hs := qJ ((qK Hno) (by rw [qK Hcb, show decide (0 < ct) = false by simpa using hct]; rfl))
        go_wp2_with fail
        go_roundw
        case rel => exact ⟨k + 1, by omega, by go_num, by rw [qK Hs]; exact (qK Hcom).bw (by repeat first|exact br _|assumption|apply bd|apply bn|apply ba|refine bt ?_ (by assumption)), (Below.block (show Bw wr _ from (by repeat first|exact br _|assumption|apply bd|apply bn|apply ba|refine bt ?_ (by assumption))) _ gl).trans (qK Hg), (Below.block (show Bw wr _ from (by repeat first|exact br _|assumption|apply bd|apply bn|apply ba|refine bt ?_ (by assumption))) _ dl).trans (qK Hd), (by repeat first|exact br _|assumption|apply bd|apply bn|apply ba|refine bt ?_ (by assumption))⟩
        case measure => simp [intOf]; omega
    · have hkk : k = ps.length := by omega
      subst hkk
      obtain ⟨arr, ha1, ha2, ha3⟩ := qK Hcom
      have Hrange : Hid (wr.rangeAt cb 0 arr.toList) := qJ (fun j v hj => by rw [Nat.zero_add]; exact qQ ha1 (by simpa using hj))
      have Hsize : Hid ((Try.prog.info? 192).map (·.size) = some arr.toList.length) := qJ (by rw [Try.sizeComing]; simp [ha2])
      clear Hcom ha1
      go_wp2_with (refine wpList_load_mid rfl 192 _ rfl cb 0 rfl arr.toList _ (qK Hrange) Try.underlying192 rfl (qK Hsize) ?_)
      refine (pleast_any _ arr _ ha2 ha3).mono ?_
      rintro en w1 ⟨v, rfl, hov, hb1⟩
      go_wp2_with fail
      go_ret
      exact ⟨v, rfl, hov.weaken hB, hB.trans hb1⟩
theorem TabIn.map {S S' : Nat → Prop} {w w' : World} {v : Value} {n m : Nat} {f : Nat → Nat → Int} (h : TabIn S w v n m f) (hf : ∀ (ty : TypeId) (sz : Nat) (u : Value) (m : Nat) (ys : List Value), ty = 26 ∨ ty = 3 → OwnsIn S w ty sz u m ys → OwnsIn S' w' ty sz u m ys) : TabIn S' w' v n m f := by
  obtain ⟨vs, h1, h2⟩ := h
  refine ⟨vs, hf _ _ _ _ _ (.inl rfl) h1, fun i hi => ?_⟩
  obtain ⟨u, e, h3⟩ := h2 i hi
  exact ⟨u, e, hf _ _ _ _ _ (.inr rfl) h3⟩
def advE (ns : List Nd) (W : Nat) (op : List Gv) (w n : Int) : Int := if yL ns W op w n != 0 then yL ns W op w n else if decide (5 ≤ kQ op w n 2 op.length) then 5 else 0
def tB (st : RSt) (w n : Int) (k : Nat) : RSt := { st with log := st.log ++ [⟨w, [⟨n, true, k, 0, -1⟩, ⟨n, true, (k : Int) + 1, 0, 1⟩]⟩], opened := st.opened ++ [⟨n, w, 2⟩] }
def dD (ns : List Nd) (W : Nat) (st : RSt) (w n : Int) : RSt := if advE ns W st.opened w n == 0 then tB st w n (kQ st.opened w n 2 st.opened.length) else st
def tW (st : RSt) (w n : Int) (k : Nat) : RSt := { st with log := st.log ++ [⟨w, [⟨n, true, k, 0, -1⟩]⟩], opened := st.opened ++ [⟨n, w, 3⟩] }
def cJ (ns : List Nd) (W : Nat) (st : RSt) (w n : Int) : RSt := if yL ns W st.opened w n == 0 then tW st w n (kQ st.opened w n 2 st.opened.length) else st
def atI (ns : List Nd) (W : Nat) (w : Int) (v : Int) (x : Nat) : Int := if (qV ns x).kind == 5 then v % W else if (qV ns x).kind == 6 then (v % (qV ns x).k) % W else w
def tN (ns : List Nd) (W : Nat) (w n : Int) (m : Gv) : Nat → List Ml
  | 0 => []
  | x + 1 => if qH (qV ns x) n then tN ns W w n m x ++ [⟨atI ns W w m.value x, x, m.node, m.epoch, m.value, false⟩] else tN ns W w n m x
def jW (ns : List Nd) (n : Int) (m : Gv) : Nat → List Pt
  | 0 => []
  | x + 1 => if qH (qV ns x) n then jW ns n m x ++ [⟨x, false, m.node, m.epoch, 1⟩] else jW ns n m x
theorem putM_len (ns : List Nd) (W : Nat) (w n : Int) (m : Gv) (k : Nat) : (tN ns W w n m k).length ≤ k := by
  induction k with
  | zero => simp [tN]
  | succ k ih => unfold tN; split <;> (try simp) <;> omega
theorem wN (ns : List Nd) (n : Int) (m : Gv) (k : Nat) : (jW ns n m k).length ≤ k := by
  induction k with
  | zero => simp [jW]
  | succ k ih => unfold jW; split <;> (try simp) <;> omega
def jH (op : List Gv) : Nat → Nat
  | 0 => 0
  | i + 1 => if (vR op i).value == 1 then jH op i + 1 else jH op i
def giveE (ns : List Nd) (W : Nat) (op : List Gv) (w n : Int) : Int := if yL ns W op w n != 0 then yL ns W op w n else if decide (20 ≤ jH op op.length) then 5 else 0
def yT (ns : List Nd) (W : Nat) (st : RSt) (w n v : Int) (k : Nat) : RSt := { st with mails := st.mails ++ tN ns W w n ⟨k, 0, v⟩ ns.length, log := st.log ++ [⟨w, jW ns n ⟨k, 0, v⟩ ns.length⟩], opened := st.opened ++ [⟨n, w, 1⟩] }
def pR (ns : List Nd) (W : Nat) (st : RSt) (w n v : Int) : RSt := if giveE ns W st.opened w n == 0 then yT ns W st w n v (kQ st.opened w n 2 st.opened.length) else st
end Go.Proofs.Ytfemleimkbjehaa
