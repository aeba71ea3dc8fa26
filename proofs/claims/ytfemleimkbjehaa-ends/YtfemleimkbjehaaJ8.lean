import Derived.Test.YtfemleimkbjehaaJ7
import Derived.Deep.RegionHeld3
import Derived.Test.YtfemleimkbjehaaJ1
import Derived.Test.YtfemleimkbjehaaJ3
set_option maxRecDepth 1000000
set_option maxHeartbeats 40000000
set_option linter.unusedVariables false
set_option linter.unusedSimpArgs false
namespace Go.Proofs.Ytfemleimkbjehaa
open Go.RowKit
theorem Try.infoIntsR : (Try.prog.info? 26).map (fun i => (i.zero, i.size, i.bytes)) = some (some (.slice none 0 0), 1, 24) := by kernel_rfl
def rst0 : RSt := ⟨[], [], [], [], fun _ _ => 0⟩
def zK (ns : List Nd) : Nat → Nat → Int := fun n x => yR ns (x : Int) ns.length (n : Int)
def pZ (m : Nat) (f : Nat → Int) : List Value := (List.range m).map fun j => .int .i64 (f j)
def TabB (base : Nat) (w : World) (v : Value) (n m : Nat) (f : Nat → Nat → Int) : Prop :=
  ∃ vs : List Value, w.ownsRow base 26 1 v n vs ∧ ∀ i, i < n → ∃ u, vs[i]? = some u ∧ w.ownsRow base 3 1 u m (pZ m (f i))
theorem TabB.nil (base : Nat) (w : World) (m : Nat) (f : Nat → Nat → Int) : TabB base w (.slice none 0 0) 0 m f := ⟨[], World.ownsRow_nil _ _ _ _, fun i hi => absurd hi (Nat.not_lt_zero i)⟩
theorem TabB.map {base : Nat} {w w' : World} {v : Value} {n m : Nat} {f : Nat → Nat → Int} (h : TabB base w v n m f) (hf : ∀ (ty : TypeId) (u : Value) (k : Nat) (ys : List Value), ty = 26 ∨ ty = 3 → w.ownsRow base ty 1 u k ys → w'.ownsRow base ty 1 u k ys) : TabB base w' v n m f := by
  obtain ⟨vs, h1, h2⟩ := h
  refine ⟨vs, hf _ _ _ _ (.inl rfl) h1, fun i hi => ?_⟩
  obtain ⟨u, e, h3⟩ := h2 i hi
  exact ⟨u, e, hf _ _ _ _ (.inr rfl) h3⟩
theorem TabB.bw {base : Nat} {w w' : World} {v : Value} {n m : Nat} {f : Nat → Nat → Int} (h : TabB base w v n m f) (hb : Bw w w') : TabB base w' v n m f := h.map fun _ _ _ _ _ h => qP h fun g hg => Below.block hb g hg
theorem TabB.add {base : Nat} {w w' : World} {v v' u : Value} {n m : Nat} {f : Nat → Nat → Int} {vs : List Value} (h1 : w.ownsRow base 26 1 v n vs) (h2 : ∀ i, i < n → ∃ u, vs[i]? = some u ∧ w.ownsRow base 3 1 u m (pZ m (f i)))
    (hu : w.ownsRow base 3 1 u m (pZ m (f n))) (ho : w'.ownsRow base 26 1 v' (n + 1) (vs ++ [u])) (hg : w.grownBy w' v.ownBlock) : TabB base w' v' (n + 1) m f := by
  refine ⟨_, ho, fun i hi => ?_⟩
  have hvl : vs.length = n := by simpa using h1.1
  by_cases hn : i < n
  · obtain ⟨u', e, h3⟩ := h2 i hn
    exact ⟨u', by rw [List.getElem?_append_left (by omega)]; exact e, jT h1 hg h3 (by decide)⟩
  · have : i = n := by omega
    subst this
    exact ⟨u, by rw [List.getElem?_append_right (by omega), hvl]; simp, jT h1 hg hu (by decide)⟩
theorem TabB.tabIn {base : Nat} {w : World} {v : Value} {n m : Nat} {f : Nat → Nat → Int} {S : Nat → Prop} (h : TabB base w v n m f) (hS : ∀ b, base ≤ b → b < w.heap.size → S b) : TabIn S w v n m f := by
  have key : ∀ {ty : TypeId} {u : Value} {k : Nat} {ys : List Value}, w.ownsRow base ty 1 u k ys → OwnsIn S w ty 1 u k ys := fun h => ⟨kW h (Nat.zero_le _), fun b hb => hS b (World.ownsRow.lt h b hb).1 (World.ownsRow.lt h b hb).2⟩
  obtain ⟨vs, h1, h2⟩ := h
  refine ⟨vs, key h1, fun i hi => ?_⟩
  obtain ⟨u, e, h3⟩ := h2 i hi
  exact ⟨u, e, key h3⟩
theorem mY {w w' : World} (h : w.grownBy w' none) : Bw w w' := ⟨h.os, h.tape, h.output, h.size, fun i hi => h.block i hi (by simp)⟩
theorem nodes_row {w : World} {ga : Option Addr} {ns : List Nd} (h : NodesAt w ga ns) : CellsAt w ga ns.length (qL ns) := by
  intro hm
  obtain ⟨b, off, e, _, hc⟩ := h 0 hm
  refine ⟨b, off, e, fun j u hj => ?_⟩
  have := nodeCells_src hc j u hj
  rw [Go.WideShapes.add_plain] at this
  exact this
theorem qY {w : World} {b k : Nat} {arr : Array Value} {t : TypeId} {v : Value} (h : w.heap[b]? = some (.cells arr t (0, 0))) : (w.setCell ⟨b, k, none⟩ v).heap[b]? = some (.cells (arr.setIfInBounds k v) t (0, 0)) := by
  rw [setCell_eq_setRow w b k arr t (0, 0) _ h]
  exact setRow_heap w b arr _ _ _ h
theorem qB (w : World) (b k : Nat) (v : Value) : Chg (fun x => x = b) w (w.setCell ⟨b, k, none⟩ v) :=
  ⟨rfl, rfl, rfl, by simp, fun i _ hn => Below.heap_setCell w ⟨b, k, none⟩ v i hn⟩
theorem cells1 {w : World} {g : Nat} {a : Value} (h0 : w.cell? ⟨g, 0, none⟩ = some a) : ∀ j u, [a][j]? = some u → w.cell? ⟨g, j, none⟩ = some u := by
  intro j u hj
  match j, hj with
  | 0, hj => simp at hj; subst hj; exact h0
theorem bY {w : World} {base : Nat} {v : Value} {ns : List Nd} (h : w.ownsRow base 32 5 v ns.length (qL ns)) : NodesAt w (vP v) ns := by
  intro i hi
  obtain ⟨g, e, hl, hc⟩ := vT h (by omega)
  refine ⟨g, 0, e, hl, fun j hj => ?_⟩
  simp only [Nat.zero_add]
  have q : ∀ f, f < 5 → ∀ u, (Nd.cells (qV ns j))[f]? = some u → w.cell? ⟨g, j * 5 + f, none⟩ = some u := fun f hf u hu => hc _ _ ((pV ns j hj f hf).trans hu)
  exact ⟨q 0 (by omega) _ rfl, q 1 (by omega) _ rfl, q 2 (by omega) _ rfl, q 3 (by omega) _ rfl, q 4 (by omega) _ rfl⟩
theorem qT {α : Type} (l : List α) (i : Nat) (a : α) : l.toArray.setIfInBounds i a = (l.set i a).toArray := by simp
theorem qS {α : Type} (a b : α) (l : List α) : (a :: l).set 0 b = b :: l := rfl
theorem qR {α : Type} (a b : α) (l : List α) (i : Nat) : (a :: l).set (i + 1) b = a :: l.set i b := rfl
def BelIn (w : World) (b o : Nat) (t : TypeId) (arr : Array Value) (T : Nat → Int) : Prop :=
  ∃ arr' : Array Value, w.heap[b]? = some (.cells arr' t (0, 0)) ∧ arr'.size = arr.size ∧ (∀ k, (k < o ∨ o + 384 ≤ k) → arr'[k]? = arr[k]?) ∧ ∀ k, k < 384 → arr'[o + k]? = some (.int .i64 (T k))
theorem BelIn.bel {w : World} {b o : Nat} {t : TypeId} {arr : Array Value} {T : Nat → Int} (h : BelIn w b o t arr T) : BelAt w b o T := by
  obtain ⟨arr', h1, _, _, h4⟩ := h
  exact ⟨(Array.getElem?_eq_some_iff.1 h1).1, fun k hk => qQ h1 (h4 k hk)⟩
theorem BelIn.bw {w w' : World} {b o : Nat} {t : TypeId} {arr : Array Value} {T : Nat → Int} (h : BelIn w b o t arr T) (hb : Bw w w') : BelIn w' b o t arr T := by
  obtain ⟨arr', h1, r⟩ := h
  exact ⟨arr', (Below.block hb _ (Array.getElem?_eq_some_iff.1 h1).1).trans h1, r⟩
theorem BelIn.fr {w : World} {b o : Nat} {t : TypeId} {arr : Array Value} {T : Nat → Int} (h : BelIn w b o t arr T) (k : Nat) : w.frozen? ⟨b, k, none⟩ = false := by
  obtain ⟨arr', h1, _⟩ := h
  exact qZ h1
theorem BelIn.set {w : World} {b o : Nat} {t : TypeId} {arr : Array Value} {T : Nat → Int} (h : BelIn w b o t arr T) {k : Nat} (hk : k < 384) {v : Int} : BelIn (w.setCell ⟨b, o + k, none⟩ (.int .i64 v)) b o t arr (bN T k v) := by
  obtain ⟨arr', h1, h2, h3, h4⟩ := h
  refine ⟨_, qY h1, by simpa using h2, fun j hj => ?_, fun j hj => ?_⟩
  · rw [Array.getElem?_setIfInBounds_ne (by omega)]; exact h3 j hj
  · by_cases e : j = k
    · subst e
      have : o + j < arr'.size := (Array.getElem?_eq_some_iff.1 (h4 j hj)).1
      rw [Array.getElem?_setIfInBounds_self_of_lt this, pQ]
    · rw [Array.getElem?_setIfInBounds_ne (by omega), tM _ _ e]; exact h4 j hj
theorem spP_lt {p : Pt} (h : tQ 8 4 p) : rT 4 p < 384 := by
  obtain ⟨n, e, s, h1, h2, h3, h4, h5, h6⟩ := h
  unfold rT
  rw [h1, h3, h5]
  exact spotN_lt (L := 8) h2 h4 h6
set_option maxRecDepth 100000 in
set_option maxHeartbeats 4000000 in
theorem nL (b o : Nat) (t : TypeId) (arr : Array Value) (T : Nat → Int) (ps : List Pt) (pa : Option Addr) (pc : Nat) (w : World) (hps : PtsAt w pa ps) (hok : ∀ j, j < ps.length → tQ 8 4 (vU ps j)) (hl : ps.length ≤ 1000) (hap : ∀ g off, pa = some ⟨g, off, none⟩ → g ≠ b) (hbel : BelIn w b o t arr T) :
    Calls Try.prog 109 #[.pointer (some ⟨b, o, none⟩), .agg #[.slice pa ps.length pc]] w fun e w' => e = .returned (.tuple #[]) ∧ BelIn w' b o t arr (kS 4 T ps ps.length) ∧ Chg (fun x => x = b) w w' := by
  have hlt0 := hbel.bel.1
  have HB := qJ hbel
  have Hps := qJ hps
  clear hbel hps
  go_enter Try.func109, Try.ntmps109
  go_wp2_with fail
  obtain ⟨w0, hw0⟩ : ∃ w0, w.alloc (.cells #[.slice pa ps.length pc] 183) = w0 := ⟨_, rfl⟩
  have hB0 : Bw w w0 := by rw [← hw0]; exact (by repeat first|exact br _|assumption|apply bd|apply bn|apply ba|refine bt ?_ (by assumption))
  rw [hw0]
  clear hw0
  go_loopw [9] (fun i wr => ∃ k : Nat, k ≤ ps.length ∧ i = .int .i64 k ∧ BelIn wr b o t arr (kS 4 T ps k) ∧ Chg (fun x => x = b) w wr) (fun i _ => ps.length - (intOf i).toNat)
  case atStart => exact ⟨0, Nat.zero_le _, rfl, (qK HB).bw hB0, Chg.bw hB0⟩
  case round =>
    obtain ⟨k, hk, rfl, hbi, hC⟩ := hrel
    rename World => wr
    have hz := hC.size
    by_cases hlt : k < ps.length
    · obtain ⟨g, off, rfl, hg, hc⟩ := (qK Hps) k hlt
      obtain ⟨d0, d1, d2, d3, d4⟩ := hc k hlt
      have hne := hap g off rfl
      have hbk := hC.block g hg hne
      have hcb : ∀ x, wr.cell? ⟨g, x, none⟩ = w.cell? ⟨g, x, none⟩ := fun x => World.cell?_of_block (a := ⟨g, x, none⟩) hbk
      rw [← hcb] at d0 d1 d2 d3 d4
      clear hc hcb hbk
      have hgz : g < wr.heap.size := by omega
      have hp := hok k hlt
      have Hcan := qJ (canB_of hp (by omega) (by omega))
      have Hsp := qJ (spP_lt hp)
      have Hs : Hid (kS 4 T ps (k + 1) = bN (kS 4 T ps k) (rT 4 (vU ps k)) (wrap64 (kS 4 T ps k (rT 4 (vU ps k)) + (vU ps k).count))) := qJ rfl
      obtain ⟨n, ep, s, h1, h2, h3, h4, h5, h6⟩ := hp
      have hsp : rT 4 (vU ps k) = jJ 4 n ep s (vU ps k).out := by unfold rT; rw [h1, h3, h5]; rfl
      rw [hsp] at Hs Hsp
      rw [h1] at d0
      rw [h3] at d2
      rw [h5] at d3
      have Hp : Hid (vU ps k = ⟨n, (vU ps k).out, ep, s, (vU ps k).count⟩) := qJ (by cases hq : vU ps k; simp [hq] at h1 h3 h5; simp [h1, h3, h5])
      rw [qK Hp] at Hcan
      generalize (vU ps k).out = ou at *
      generalize (vU ps k).count = ct at *
      clear h1 h3 h5 hsp Hp
      have hlt1 := hbi.bel.1
      generalize kS 4 T ps k = TT at *
      have Hcell := qJ (fun (w' : World) (h : BelAt w' b o TT) => h.cell (ou := ou) h2 h4 h6)
      have Hset := qJ (fun (w' : World) (h : BelIn w' b o t arr TT) (v : Int) => h.set (qK Hsp) (v := v))
      obtain ⟨p0, p1, hpl⟩ : 0 ≤ plI ou ∧ plI ou < 2 ∧ o + jJ 4 n ep s ou = o + n * 48 + (plI ou).toNat * 24 + ep * 4 + s := by
        refine ⟨by cases ou <;> simp [plI], by cases ou <;> simp [plI], ?_⟩
        rw [spot4_eq]
        cases ou <;> simp [plI] <;> omega
      have Hpl := qJ (fun w => fC ou w)
      have Hadr := qJ hpl
      clear hpl
      generalize plI ou = pl at *
      go_wp2_with fail
      refine (pcanBe_any ⟨n, ou, ep, s, ct⟩ _).mono ?_
      rintro en w1 ⟨rfl, hb1⟩
      rw [qK Hcan]
      have hbx := (Below.block hb1 wr.heap.size (by simp)).trans (heap_alloc_new wr _)
      have x0 := qQ (o := 0) hbx rfl
      have x1 := qQ (o := 1) hbx rfl
      have x2 := qQ (o := 2) hbx rfl
      have x3 := qQ (o := 3) hbx rfl
      have x4 := qQ (o := 4) hbx rfl
      have xl := (Array.getElem?_eq_some_iff.1 hbx).1
      have hB1 : Bw wr w1 := (by repeat first|exact br _|assumption|apply bd|apply bn|apply ba|refine bt ?_ (by assumption))
      have hbi1 := hbi.bw hB1
      have hcell1 := (qK Hcell) w1 hbi1.bel
      have hfr1 := hbi1.fr (o + n * 48 + pl.toNat * 24 + ep * 4 + s)
      have hlt2 := hbi1.bel.1
      have Hset1 := qJ ((qK Hset) w1 hbi1 (wrap64 (TT (jJ 4 n ep s ou) + ct)))
      rw [← qK Hs, qK Hadr] at Hset1
      clear Hs Hset Hcell
      generalize TT (jJ 4 n ep s ou) = tv at *
      have n8 : (n : Int) < 8 := by omega
      have e6 : (ep : Int) < 6 := by omega
      have s4 : (s : Int) < 4 := by omega
      clear hbx hbi hbi1 d0 d1 d2 d3 d4
      go_wp2_with fail
      have hne2 : ¬ wr.heap.size = b := by omega
      have hne3 : ¬ b = wr.heap.size := by omega
      refine wp_region_held_drew (S := (fun w' => w'.cell? ⟨wr.heap.size, 0, none⟩ = some (.int .i64 (n : Int)) ∧ w'.cell? ⟨wr.heap.size, 1, none⟩ = some (.bool ou) ∧ w'.cell? ⟨wr.heap.size, 2, none⟩ = some (.int .i64 (ep : Int)) ∧ w'.cell? ⟨wr.heap.size, 3, none⟩ = some (.int .i64 (s : Int)) ∧ w'.cell? ⟨wr.heap.size, 4, none⟩ = some (.int .i64 ct))) (by kernel_rfl) (by (try dsimp only); go_keep) (fun hHeld => ?_)
      refine tk 0 ?_; try simp only [Act.put, qT, qS, qR]
      refine tk 1 ?_; try simp only [Act.put, qT, qS, qR]
      refine tk 2 ?_; try simp only [Act.put, qT, qS, qR]
      refine tk 3 ?_; try simp only [Act.put, qT, qS, qR]
      refine tk 4 ?_; try simp only [Act.put, qT, qS, qR]
      refine tk 6 ?_; try simp only [Act.put, qT, qS, qR]
      refine tk 7 ?_; try simp only [Act.put, qT, qS, qR]
      refine tk 8 ?_; try simp only [Act.put, qT, qS, qR]
      refine tk 9 ?_; try simp only [Act.put, qT, qS, qR]
      refine tk 10 ?_; try simp only [Act.put, qT, qS, qR]
      refine tk 11 ?_; try simp only [Act.put, qT, qS, qR]
      refine tk 12 ?_; try simp only [Act.put, qT, qS, qR]
      refine tk 17 ?_; try simp only [Act.put, qT, qS, qR]
      refine tk 18 ?_; try simp only [Act.put, qT, qS, qR]
      refine tk 20 ?_; try simp only [Act.put, qT, qS, qR]
      refine tk 21 ?_; try simp only [Act.put, qT, qS, qR]
      refine tk 22 ?_; try simp only [Act.put, qT, qS, qR]
      refine wpAnyH_ready (rs := [5]) (by kernel_rfl) (by simp) ?_
      refine AllReadyH.cons rfl (fun K hK => ?_) AllReadyH.nil
      go_simp
      go_at_call 138
      refine ((qK Hpl) _).mono ?_
      rintro _ _ ⟨rfl, rfl⟩
      (try go_wp2_with fail)
      refine hK.out _ _ (by (try dsimp only); go_keep) (fun hHeld => ?_)
      clear hK K
      try simp only [Act.put, qT, qS, qR]
      refine tk 13 ?_; try simp only [Act.put, qT, qS, qR]
      refine tk 14 ?_; try simp only [Act.put, qT, qS, qR]
      refine tk 15 ?_; try simp only [Act.put, qT, qS, qR]
      refine tk 23 ?_; try simp only [Act.put, qT, qS, qR]
      refine tk 24 ?_; try simp only [Act.put, qT, qS, qR]
      refine wpAnyH_ready (rs := [16]) (by kernel_rfl) (by simp) ?_
      refine AllReadyH.cons rfl (fun K hK => ?_) AllReadyH.nil
      go_simp
      refine hK.out _ _ (by (try dsimp only); go_keep) (fun hHeld => ?_)
      clear hK K
      try simp only [Act.put, qT, qS, qR]
      refine tk 19 ?_; try simp only [Act.put, qT, qS, qR]
      refine tk 25 ?_; try simp only [Act.put, qT, qS, qR]
      refine wpAnyH_ready (rs := [26]) (by kernel_rfl) (by simp) ?_
      refine AllReadyH.cons rfl (fun K hK => ?_) AllReadyH.nil
      go_simp
      refine hK.out _ _ (by (try dsimp only); go_keep) (fun hHeld => ?_)
      clear hK K
      try simp only [Act.put, qT, qS, qR]
      refine wpAnyH_done (by kernel_rfl) ?_ _
      go_wp2_with fail
      go_roundw
      case rel => exact ⟨k + 1, by omega, by go_num, (qK Hset1).bw (by repeat first|exact br _|assumption|apply bd|apply bn|apply ba|refine bt ?_ (by assumption)), (hC.trans (Chg.bw (S := fun x => x = b) hB1) fun _ h => .inl h).trans ((qB _ _ _ _).trans (Chg.bw (S := fun x => x = b) (show Bw (w1.setCell ⟨b, o + n * 48 + pl.toNat * 24 + ep * 4 + s, none⟩ (.int .i64 (wrap64 (tv + ct)))) _ from (by repeat first|exact br _|assumption|apply bd|apply bn|apply ba|refine bt ?_ (by assumption)))) fun _ h => .inl h) (fun _ h => .inl h)⟩
      case measure => simp [intOf]; omega
    · have hkk : k = ps.length := by omega
      subst hkk
      go_wp2_with fail
      go_end0
      exact ⟨rfl, hbi, hC⟩
def one1 (ns : List Nd) (n : Int) (k : Nat) : Int := if qH (qV ns k) n then 0 else -1
def xV (ns : List Nd) (n : Int) : Nat → List Int
  | 0 => []
  | k + 1 => xV ns n k ++ [one1 ns n k]
def toY (ns : List Nd) (fr : List Int) (k : Nat) : Int := if (qV ns k).kind = 4 then jQ fr k + 1 else jQ fr k
def gW (d t : Int) : Int := if d = -1 ∨ t < d then t else d
def zR (ns : List Nd) (fr : List Int) (x : Nat) (d0 : Int) : Nat → Int
  | 0 => d0
  | k + 1 => if jQ fr k = -1 ∨ qH (qV ns x) k = false then zR ns fr x d0 k else gW (zR ns fr x d0 k) (toY ns fr k)
def pG (ns : List Nd) (fr : List Int) : Nat → List Int
  | 0 => []
  | k + 1 => pG ns fr k ++ [zR ns fr k (jQ fr k) fr.length]
def xN (ns : List Nd) (n : Int) : Nat → List Int
  | 0 => xV ns n ns.length
  | s + 1 => pG ns (xN ns n s) (xN ns n s).length
theorem zL (ns : List Nd) (n : Int) (k : Nat) : (xV ns n k).length = k := by
  induction k with
  | zero => rfl
  | succ k ih => simp [xV, ih]
theorem vQ (ns : List Nd) (fr : List Int) (k : Nat) : (pG ns fr k).length = k := by
  induction k with
  | zero => rfl
  | succ k ih => simp [pG, ih]
theorem pS (ns : List Nd) (n : Int) (s : Nat) : (xN ns n s).length = ns.length := by
  induction s with
  | zero => exact zL _ _ _
  | succ s ih => unfold xN; rw [vQ, ih]
theorem oneTo_yes {ns : List Nd} {n : Int} {k : Nat} (h : qH (qV ns k) n = true) : xV ns n (k + 1) = xV ns n k ++ [0] := by simp [xV, one1, h]
theorem oneTo_no {ns : List Nd} {n : Int} {k : Nat} (h : qH (qV ns k) n = false) : xV ns n (k + 1) = xV ns n k ++ [-1] := by simp [xV, one1, h]
set_option maxHeartbeats 1000000 in
theorem oneStep_any (ns : List Nd) (ga : Option Addr) (gc : Nat) (r n : Int) (w : World) (hn : NodesAt w ga ns) (hg : ns.length ≤ 8) :
    Calls Try.prog 100 #[.agg #[.slice ga ns.length gc, .int .i64 r], .int .i64 n] w fun e w' => ∃ v, e = .returned v ∧ Own w w' v (xV ns n ns.length) ∧ Bw w w' := by
  go_enter Try.func100, Try.ntmps100
  go_wp2
  go_loopw [5, 12] (fun v i wr => ∃ k : Nat, k ≤ ns.length ∧ i = .int .i64 k ∧ Own (w.alloc (.cells #[.slice ga ns.length gc, .int .i64 r] 24)) wr v (xV ns n k) ∧
      Bw (w.alloc (.cells #[.slice ga ns.length gc, .int .i64 r] 24)) wr)
    (fun _ i _ => ns.length - (intOf i).toNat)
  case atStart => exact ⟨0, Nat.zero_le _, rfl, Own.nil _ _, Bw.refl _⟩
  case round =>
    obtain ⟨k, hk, rfl, hown, hB⟩ := hrel
    obtain ⟨gcc, gff⟩ := qX hB
    have gz : w.heap.size < wr.heap.size := by have := hB.size; simp at this; omega
    have hol := zL ns n k
    have Hol := qJ hol
    clear hol
    by_cases hlt : k < ns.length
    · obtain ⟨b, off, rfl, hb, hc⟩ := hn k hlt
      obtain ⟨c0, c1, c2, c3, c4⟩ := hc k hlt
      clear hc
      cases ht : qH (qV ns k) n with
      | true =>
        have HT := qJ ht
        clear ht
        go_wp2_with (first | (at_builtin; refine mV _ rfl _ _ rfl _ _ (xV ns n k) rfl (hown.bw (by repeat first|exact br _|assumption|apply bd|apply bn|apply ba|refine bt ?_ (by assumption))) _ _ 0 rfl (by simp) (by have := qK Hol; omega) (by repeat first|exact br _|assumption|apply bd|apply bn|apply ba|refine bt ?_ (by assumption)) ?_; intro v' w1 hown1 hB1 hgr1) | (go_at_call 128; refine (yQ (qV ns k) _ _).mono ?_; rintro e w' ⟨rfl, hbl⟩; rw [qK HT]; obtain ⟨hcc, hff⟩ := qX hbl))
        go_roundw
        case rel => exact ⟨k + 1, by omega, by go_num, by rw [oneTo_yes (qK HT)]; exact hown1, hB1⟩
        case measure => simp [intOf]; omega
      | false =>
        have HT := qJ ht
        clear ht
        go_wp2_with (first | (at_builtin; refine mV _ rfl _ _ rfl _ _ (xV ns n k) rfl (hown.bw (by repeat first|exact br _|assumption|apply bd|apply bn|apply ba|refine bt ?_ (by assumption))) _ _ (-1) rfl (by simp) (by have := qK Hol; omega) (by repeat first|exact br _|assumption|apply bd|apply bn|apply ba|refine bt ?_ (by assumption)) ?_; intro v' w1 hown1 hB1 hgr1) | (go_at_call 128; refine (yQ (qV ns k) _ _).mono ?_; rintro e w' ⟨rfl, hbl⟩; rw [qK HT]; obtain ⟨hcc, hff⟩ := qX hbl))
        go_roundw
        case rel => exact ⟨k + 1, by omega, by go_num, by rw [oneTo_no (qK HT)]; exact hown1, hB1⟩
        case measure => simp [intOf]; omega
    · have hkk : k = ns.length := by omega
      subst hkk
      obtain ⟨la, lc, rfl, _, _⟩ := hown.form
      go_wp2
      go_ret
      exact ⟨_, rfl, hown.weaken (by repeat first|exact br _|assumption|apply bd|apply bn|apply ba|refine bt ?_ (by assumption)), (by repeat first|exact br _|assumption|apply bd|apply bn|apply ba|refine bt ?_ (by assumption))⟩
theorem bV {ns : List Nd} {fr : List Int} {x : Nat} {d0 : Int} {k : Nat} (h : jQ fr k = -1 ∨ qH (qV ns x) k = false) : zR ns fr x d0 (k + 1) = zR ns fr x d0 k := by
  rw [zR, if_pos h]
theorem moreTo_go {ns : List Nd} {fr : List Int} {x : Nat} {d0 : Int} {k : Nat} (h1 : jQ fr k ≠ -1) (h2 : qH (qV ns x) k = true) : zR ns fr x d0 (k + 1) = gW (zR ns fr x d0 k) (toY ns fr k) := by
  rw [zR, if_neg (by rw [h2]; simp [h1])]
theorem uW {d t : Int} (h : d = -1 ∨ t < d) : gW d t = t := by unfold gW; rw [if_pos h]
theorem cK {d t : Int} (h1 : d ≠ -1) (h2 : d ≤ t) : gW d t = d := by unfold gW; rw [if_neg (by omega)]
theorem toY_back {ns : List Nd} {fr : List Int} {k : Nat} (h : (qV ns k).kind = 4) : toY ns fr k = jQ fr k + 1 := by simp [toY, h]
theorem toY_not {ns : List Nd} {fr : List Int} {k : Nat} (h : (qV ns k).kind ≠ 4) : toY ns fr k = jQ fr k := by simp [toY, h]
def Low (c : Int) (fr : List Int) : Prop := ∀ j, j < fr.length → -1 ≤ jQ fr j ∧ jQ fr j ≤ c
theorem moreTo_bd {ns : List Nd} {fr : List Int} {x : Nat} {d0 c : Int} (hf : Low c fr) (h1 : -1 ≤ d0) (h2 : d0 ≤ c + 1) : ∀ k, k ≤ fr.length → -1 ≤ zR ns fr x d0 k ∧ zR ns fr x d0 k ≤ c + 1 := by
  intro k hk
  induction k with
  | zero => exact ⟨h1, h2⟩
  | succ k ih =>
    have ih := ih (by omega)
    have := hf k (by omega)
    unfold zR
    split
    · exact ih
    · unfold gW toY
      split <;> split <;> omega
theorem moreL_low {ns : List Nd} {fr : List Int} {c : Int} (hf : Low c fr) : ∀ k, k ≤ fr.length → Low (c + 1) (pG ns fr k) := by
  intro k hk
  induction k with
  | zero => intro j hj; simp [pG] at hj
  | succ k ih =>
    have ih := ih (by omega)
    intro j hj
    rw [vQ] at hj
    rw [jN (by rw [vQ]; exact hj)]
    unfold pG
    by_cases e : j < k
    · rw [List.getElem_append_left (by rw [vQ]; exact e), ← jN (by rw [vQ]; exact e)]
      exact ih j (by rw [vQ]; exact e)
    · have : j = (pG ns fr k).length := by rw [vQ]; omega
      subst this
      simp
      have hk2 := hf k (by omega)
      exact moreTo_bd hf (by omega) (by omega) _ (Nat.le_refl _)
theorem distL_low (ns : List Nd) (n : Int) (s : Nat) : Low s (xN ns n s) := by
  induction s with
  | zero =>
    have h : ∀ k, Low 0 (xV ns n k) := by
      intro k
      induction k with
      | zero => intro j hj; simp [xV] at hj
      | succ k ih =>
        intro j hj
        rw [zL] at hj
        rw [jN (by rw [zL]; exact hj)]
        unfold xV
        by_cases e : j < k
        · rw [List.getElem_append_left (by rw [zL]; exact e), ← jN (by rw [zL]; exact e)]
          exact ih j (by rw [zL]; exact e)
        · have : j = (xV ns n k).length := by rw [zL]; omega
          subst this
          simp [one1]
          split <;> omega
    exact h _
  | succ s ih =>
    unfold xN
    have := moreL_low (ns := ns) ih _ (Nat.le_refl _)
    intro j hj
    have := this j hj
    omega
set_option maxRecDepth 100000 in
set_option maxHeartbeats 4000000 in
theorem oneMore_any (ns : List Nd) (ga : Option Addr) (gc : Nat) (r : Int) (fr : List Int) (fa : Option Addr) (fc : Nat) (w : World) (hn : NodesAt w ga ns) (hx : IntsAt w fa fr) (hg : ns.length ≤ 8) (hl1 : fr.length ≤ ns.length) (hlow : Low 8 fr) :
    Calls Try.prog 101 #[.agg #[.slice ga ns.length gc, .int .i64 r], .slice fa fr.length fc] w fun e w' => ∃ v, e = .returned v ∧ Own w w' v (pG ns fr fr.length) ∧ Bw w w' := by
  go_enter Try.func101, Try.ntmps101
  go_wp2_with fail
  go_loopw [5, 12] (fun v i wr => ∃ k : Nat, k ≤ fr.length ∧ i = .int .i64 k ∧ Own (w.alloc (.cells #[.slice ga ns.length gc, .int .i64 r] 24)) wr v (pG ns fr k) ∧ Bw (w.alloc (.cells #[.slice ga ns.length gc, .int .i64 r] 24)) wr) (fun _ i _ => fr.length - (intOf i).toNat)
  case atStart => exact ⟨0, Nat.zero_le _, rfl, Own.nil _ _, Bw.refl _⟩
  case round =>
    obtain ⟨k, hk, rfl, hown, hB⟩ := hrel
    rename World => wo
    have Hml := qJ (vQ ns fr k)
    by_cases hlt : k < fr.length
    · obtain ⟨bf, of, rfl, hbf, hcf⟩ := hx k hlt
      have hfk := hcf k hlt
      have Hcf := qJ hcf
      clear hcf
      obtain ⟨b, off, rfl, hb, hc⟩ := hn k (by omega)
      obtain ⟨c0, c1, c2, c3, c4⟩ := hc k (by omega)
      have Hc := qJ hc
      clear hc
      have hbk := hlow k hlt
      have Hmb := qJ (fun y (hy : y ≤ fr.length) => moreTo_bd (ns := ns) (x := k) hlow hbk.1 (by omega) y hy)
      obtain ⟨gcc, gff⟩ := qX hB
      have gz : w.heap.size < wo.heap.size := by have := hB.size; simp at this; omega
      go_wp2_with fail
      go_loopw [7, 19] (fun d i wi => ∃ y : Nat, y ≤ fr.length ∧ i = .int .i64 y ∧ d = .int .i64 (zR ns fr k (jQ fr k) y) ∧ Bw wo wi) (fun _ i _ => fr.length - (intOf i).toNat)
      case atStart => exact ⟨0, Nat.zero_le _, rfl, rfl, Bw.refl _⟩
      case round =>
        obtain ⟨y, hy, rfl, rfl, hBi⟩ := hrel
        have hBw : Bw (w.alloc (.cells #[.slice (some ⟨b, off, none⟩) ns.length gc, .int .i64 r] 24)) wr := (by repeat first|exact br _|assumption|apply bd|apply bn|apply ba|refine bt ?_ (by assumption))
        clear gcc gff gz
        obtain ⟨gcc, gff⟩ := qX hBw
        have gz : w.heap.size < wr.heap.size := by have := hBw.size; simp at this; omega
        by_cases hyl : y < fr.length
        · have hfy := (qK Hcf) y hyl
          obtain ⟨e0, _⟩ := (qK Hc) y (by omega)
          have hby := hlow y hyl
          have hbd := (qK Hmb) y hy
          have gzb : b < wr.heap.size := by omega
          have Hskip := qJ (@bV ns fr k (jQ fr k) y)
          have Hgo := qJ (@moreTo_go ns fr k (jQ fr k) y)
          have Hy4 := qJ (@toY_back ns fr y)
          have Hyn := qJ (@toY_not ns fr y)
          generalize hdd : zR ns fr k (jQ fr k) y = dd at hbd Hskip Hgo
          generalize hff : jQ fr y = fy at hfy hby Hskip Hgo Hy4 Hyn
          have Hdd := qJ hdd
          clear hdd hff
          by_cases hm1 : fy = -1
          · have hm2 : (fy == -1) = true := by simp [hm1]
            have Hs := qJ ((qK Hskip) (.inl hm1))
            clear hm1
            go_wp2_with fail
            go_roundw
            case rel => exact ⟨y + 1, by omega, by go_num, by rw [qK Hs], (by repeat first|exact br _|assumption|apply bd|apply bn|apply ba|refine bt ?_ (by assumption))⟩
            case measure => simp [intOf]; omega
          · have hm2 : (fy == -1) = false := by simpa using hm1
            cases ht : qH (qV ns k) y with
            | false =>
              have HT := qJ ht
              have Hs := qJ ((qK Hskip) (.inr ht))
              clear ht hm1
              go_wp2_with (go_at_call 128; refine (yQ (qV ns k) _ _).mono ?_; rintro e w' ⟨rfl, hbl⟩; rw [qK HT]; obtain ⟨hcc, hff⟩ := qX hbl)
              go_roundw
              case rel => exact ⟨y + 1, by omega, by go_num, by rw [qK Hs], (by repeat first|exact br _|assumption|apply bd|apply bn|apply ba|refine bt ?_ (by assumption))⟩
              case measure => simp [intOf]; omega
            | true =>
              have HT := qJ ht
              have Hs := qJ ((qK Hgo) hm1 ht)
              clear ht hm1
              by_cases h4 : (qV ns y).kind = 4
              · have h4' : ((qV ns y).kind == 4) = true := by simp [h4]
                have Hy := qJ ((qK Hy4) h4)
                clear h4
                by_cases hd1 : dd = -1
                · have hd2 : (dd == -1) = true := by simp [hd1]
                  have Hb := qJ (uW (t := fy + 1) (.inl hd1))
                  clear hd1
                  go_wp2_with (go_at_call 128; refine (yQ (qV ns k) _ _).mono ?_; rintro e w' ⟨rfl, hbl⟩; rw [qK HT]; obtain ⟨hcc, hff⟩ := qX hbl)
                  go_roundw
                  case rel => exact ⟨y + 1, by omega, by go_num, by rw [qK Hs, qK Hy, qK Hb], (by repeat first|exact br _|assumption|apply bd|apply bn|apply ba|refine bt ?_ (by assumption))⟩
                  case measure => simp [intOf]; omega
                · have hd2 : (dd == -1) = false := by simpa using hd1
                  by_cases hd3 : fy + 1 < dd
                  · have Hb := qJ (uW (.inr hd3))
                    clear hd1
                    go_wp2_with (go_at_call 128; refine (yQ (qV ns k) _ _).mono ?_; rintro e w' ⟨rfl, hbl⟩; rw [qK HT]; obtain ⟨hcc, hff⟩ := qX hbl)
                    go_roundw
                    case rel => exact ⟨y + 1, by omega, by go_num, by rw [qK Hs, qK Hy, qK Hb], (by repeat first|exact br _|assumption|apply bd|apply bn|apply ba|refine bt ?_ (by assumption))⟩
                    case measure => simp [intOf]; omega
                  · have Hb := qJ (cK hd1 (by omega : dd ≤ fy + 1))
                    clear hd1
                    go_wp2_with (go_at_call 128; refine (yQ (qV ns k) _ _).mono ?_; rintro e w' ⟨rfl, hbl⟩; rw [qK HT]; obtain ⟨hcc, hff⟩ := qX hbl)
                    go_roundw
                    case rel => exact ⟨y + 1, by omega, by go_num, by rw [qK Hs, qK Hy, qK Hb], (by repeat first|exact br _|assumption|apply bd|apply bn|apply ba|refine bt ?_ (by assumption))⟩
                    case measure => simp [intOf]; omega
              · have h4' : ((qV ns y).kind == 4) = false := by simpa using h4
                have Hy := qJ ((qK Hyn) h4)
                clear h4
                by_cases hd1 : dd = -1
                · have hd2 : (dd == -1) = true := by simp [hd1]
                  have Hb := qJ (uW (t := fy) (.inl hd1))
                  clear hd1
                  go_wp2_with (go_at_call 128; refine (yQ (qV ns k) _ _).mono ?_; rintro e w' ⟨rfl, hbl⟩; rw [qK HT]; obtain ⟨hcc, hff⟩ := qX hbl)
                  go_roundw
                  case rel => exact ⟨y + 1, by omega, by go_num, by rw [qK Hs, qK Hy, qK Hb], (by repeat first|exact br _|assumption|apply bd|apply bn|apply ba|refine bt ?_ (by assumption))⟩
                  case measure => simp [intOf]; omega
                · have hd2 : (dd == -1) = false := by simpa using hd1
                  by_cases hd3 : fy < dd
                  · have Hb := qJ (uW (.inr hd3))
                    clear hd1
                    go_wp2_with (go_at_call 128; refine (yQ (qV ns k) _ _).mono ?_; rintro e w' ⟨rfl, hbl⟩; rw [qK HT]; obtain ⟨hcc, hff⟩ := qX hbl)
                    go_roundw
                    case rel => exact ⟨y + 1, by omega, by go_num, by rw [qK Hs, qK Hy, qK Hb], (by repeat first|exact br _|assumption|apply bd|apply bn|apply ba|refine bt ?_ (by assumption))⟩
                    case measure => simp [intOf]; omega
                  · have Hb := qJ (cK hd1 (by omega : dd ≤ fy))
                    clear hd1
                    go_wp2_with (go_at_call 128; refine (yQ (qV ns k) _ _).mono ?_; rintro e w' ⟨rfl, hbl⟩; rw [qK HT]; obtain ⟨hcc, hff⟩ := qX hbl)
                    go_roundw
                    case rel => exact ⟨y + 1, by omega, by go_num, by rw [qK Hs, qK Hy, qK Hb], (by repeat first|exact br _|assumption|apply bd|apply bn|apply ba|refine bt ?_ (by assumption))⟩
                    case measure => simp [intOf]; omega
        · have hyy : y = fr.length := by omega
          subst hyy
          go_wp2_with (at_builtin; refine mV _ rfl _ _ rfl _ _ (pG ns fr k) rfl (hown.bw (by repeat first|exact br _|assumption|apply bd|apply bn|apply ba|refine bt ?_ (by assumption))) _ _ (zR ns fr k (jQ fr k) fr.length) rfl (by simp) (by have := qK Hml; omega) (by repeat first|exact br _|assumption|apply bd|apply bn|apply ba|refine bt ?_ (by assumption)) ?_; intro v' w1 hown1 hB1 hgr1)
          go_roundw
          case rel => exact ⟨k + 1, by omega, by go_num, hown1, hB1⟩
          case measure => simp [intOf]; omega
    · have hkk : k = fr.length := by omega
      subst hkk
      obtain ⟨la, lc, rfl, _, _⟩ := hown.form
      go_wp2_with fail
      go_ret
      exact ⟨_, rfl, hown.weaken (by repeat first|exact br _|assumption|apply bd|apply bn|apply ba|refine bt ?_ (by assumption)), (by repeat first|exact br _|assumption|apply bd|apply bn|apply ba|refine bt ?_ (by assumption))⟩
theorem Low.mono {c d : Int} {fr : List Int} (h : Low c fr) (hcd : c ≤ d) : Low d fr := fun j hj => ⟨(h j hj).1, by have := (h j hj).2; omega⟩
set_option maxRecDepth 100000 in
set_option maxHeartbeats 4000000 in
theorem distFrom_any (ns : List Nd) (ga : Option Addr) (gc : Nat) (r n : Int) (w : World) (hn : NodesAt w ga ns) (h1 : 1 ≤ ns.length) (h8 : ns.length ≤ 8) :
    Calls Try.prog 75 #[.agg #[.slice ga ns.length gc, .int .i64 r], .int .i64 n] w fun e w' => ∃ v, e = .returned v ∧ Own w w' v (xN ns n (ns.length - 1)) ∧ Bw w w' := by
  go_enter Try.func75, Try.ntmps75
  go_wp2_with fail
  refine (oneStep_any ns _ _ _ _ _ (hn.below (by repeat first|exact br _|assumption|apply bd|apply bn|apply ba|refine bt ?_ (by assumption))) h8).mono ?_
  rintro e w1 ⟨v, rfl, hown, hbl⟩
  have hB1 : Bw (w.alloc (.cells #[.slice ga ns.length gc, .int .i64 r] 24)) w1 := (by repeat first|exact br _|assumption|apply bd|apply bn|apply ba|refine bt ?_ (by assumption))
  have hown1 : Own (w.alloc (.cells #[.slice ga ns.length gc, .int .i64 r] 24)) w1 v (xN ns n 0) := hown.weaken (by repeat first|exact br _|assumption|apply bd|apply bn|apply ba|refine bt ?_ (by assumption))
  clear hown
  go_wp2_with fail
  go_loopw [5, 6] (fun v i wr => ∃ s : Nat, s + 1 ≤ ns.length ∧ i = .int .i64 ((s : Int) + 1) ∧ Own (w.alloc (.cells #[.slice ga ns.length gc, .int .i64 r] 24)) wr v (xN ns n s) ∧ Bw (w.alloc (.cells #[.slice ga ns.length gc, .int .i64 r] 24)) wr) (fun _ i _ => ns.length - (intOf i).toNat)
  case atStart => exact ⟨0, by omega, rfl, hown1, hB1⟩
  case round =>
    clear hown1 hB1
    obtain ⟨s, hs, rfl, hown, hB⟩ := hrel
    obtain ⟨gcc, gff⟩ := qX hB
    have gz : w.heap.size < wr.heap.size := by have := hB.size; simp at this; omega
    obtain ⟨fa, fc, rfl, hfx, hfm⟩ := hown.form
    have Hdl := qJ (pS ns n s)
    by_cases hlt : s + 1 < ns.length
    · have hlow := (distL_low ns n s).mono (d := 8) (by omega)
      go_wp2_with (go_at_call 101; refine (oneMore_any ns _ _ _ (xN ns n s) _ _ _ (hn.below (by repeat first|exact br _|assumption|apply bd|apply bn|apply ba|refine bt ?_ (by assumption))) hfx h8 (by rw [qK Hdl]; exact Nat.le_refl _) hlow).mono ?_; rintro e w2 ⟨v2, rfl, hown2, hbl2⟩)
      go_roundw
      case rel => exact ⟨s + 1, by omega, by go_num, hown2.weaken (by repeat first|exact br _|assumption|apply bd|apply bn|apply ba|refine bt ?_ (by assumption)), (by repeat first|exact br _|assumption|apply bd|apply bn|apply ba|refine bt ?_ (by assumption))⟩
      case measure => simp [intOf]; omega
    · have hss : s = ns.length - 1 := by omega
      subst hss
      go_wp2_with fail
      go_ret
      exact ⟨_, rfl, hown.weaken (by repeat first|exact br _|assumption|apply bd|apply bn|apply ba|refine bt ?_ (by assumption)), (by repeat first|exact br _|assumption|apply bd|apply bn|apply ba|refine bt ?_ (by assumption))⟩
end Go.Proofs.Ytfemleimkbjehaa
