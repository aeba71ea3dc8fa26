import Derived.Test.YtfemleimkbjehaaJ7
import Derived.Deep.RegionHeld3
import Derived.Test.YtfemleimkbjehaaJ1
set_option maxRecDepth 1000000
set_option maxHeartbeats 40000000
set_option linter.unusedVariables false
set_option linter.unusedSimpArgs false
namespace Go.Proofs.Ytfemleimkbjehaa
open Go.RowKit
theorem Try.infoIntsR : (Try.prog.info? 26).map (fun i => (i.zero, i.size, i.bytes)) = some (some (.slice none 0 0), 1, 24) := by kernel_rfl
def rst0 : RSt := ⟨[], [], [], [], fun _ _ => 0⟩
def jV (ns : List Nd) : Nat → Nat → Int := fun n x => yT ns (x : Int) ns.length (n : Int)
def intRow (m : Nat) (f : Nat → Int) : List Value := (List.range m).map fun j => .int .i64 (f j)
def TabB (base : Nat) (w : World) (v : Value) (n m : Nat) (f : Nat → Nat → Int) : Prop :=
  ∃ vs : List Value, w.ownsRow base 26 1 v n vs ∧ ∀ i, i < n → ∃ u, vs[i]? = some u ∧ w.ownsRow base 3 1 u m (intRow m (f i))
theorem TabB.nil (base : Nat) (w : World) (m : Nat) (f : Nat → Nat → Int) : TabB base w (.slice none 0 0) 0 m f := ⟨[], World.ownsRow_nil _ _ _ _, fun i hi => absurd hi (Nat.not_lt_zero i)⟩
theorem TabB.map {base : Nat} {w w' : World} {v : Value} {n m : Nat} {f : Nat → Nat → Int} (h : TabB base w v n m f) (hf : ∀ (ty : TypeId) (u : Value) (k : Nat) (ys : List Value), ty = 26 ∨ ty = 3 → w.ownsRow base ty 1 u k ys → w'.ownsRow base ty 1 u k ys) : TabB base w' v n m f := by
  obtain ⟨vs, h1, h2⟩ := h
  refine ⟨vs, hf _ _ _ _ (.inl rfl) h1, fun i hi => ?_⟩
  obtain ⟨u, e, h3⟩ := h2 i hi
  exact ⟨u, e, hf _ _ _ _ (.inr rfl) h3⟩
theorem TabB.bw {base : Nat} {w w' : World} {v : Value} {n m : Nat} {f : Nat → Nat → Int} (h : TabB base w v n m f) (hb : Bw w w') : TabB base w' v n m f := h.map fun _ _ _ _ _ h => qT h fun g hg => Below.block hb g hg
theorem TabB.add {base : Nat} {w w' : World} {v v' u : Value} {n m : Nat} {f : Nat → Nat → Int} {vs : List Value} (h1 : w.ownsRow base 26 1 v n vs) (h2 : ∀ i, i < n → ∃ u, vs[i]? = some u ∧ w.ownsRow base 3 1 u m (intRow m (f i)))
    (hu : w.ownsRow base 3 1 u m (intRow m (f n))) (ho : w'.ownsRow base 26 1 v' (n + 1) (vs ++ [u])) (hg : w.grownBy w' v.ownBlock) : TabB base w' v' (n + 1) m f := by
  refine ⟨_, ho, fun i hi => ?_⟩
  have hvl : vs.length = n := by simpa using h1.1
  by_cases hn : i < n
  · obtain ⟨u', e, h3⟩ := h2 i hn
    exact ⟨u', by rw [List.getElem?_append_left (by omega)]; exact e, jT h1 hg h3 (by decide)⟩
  · have : i = n := by omega
    subst this
    exact ⟨u, by rw [List.getElem?_append_right (by omega), hvl]; simp, jT h1 hg hu (by decide)⟩
theorem TabB.tabIn {base : Nat} {w : World} {v : Value} {n m : Nat} {f : Nat → Nat → Int} {S : Nat → Prop} (h : TabB base w v n m f) (hS : ∀ b, base ≤ b → b < w.heap.size → S b) : TabIn S w v n m f := by
  have key : ∀ {ty : TypeId} {u : Value} {k : Nat} {ys : List Value}, w.ownsRow base ty 1 u k ys → OwnsIn S w ty 1 u k ys := fun h => ⟨kU h (Nat.zero_le _), fun b hb => hS b (World.ownsRow.lt h b hb).1 (World.ownsRow.lt h b hb).2⟩
  obtain ⟨vs, h1, h2⟩ := h
  refine ⟨vs, key h1, fun i hi => ?_⟩
  obtain ⟨u, e, h3⟩ := h2 i hi
  exact ⟨u, e, key h3⟩
theorem bw_grown {w w' : World} (h : w.grownBy w' none) : Bw w w' := ⟨h.os, h.tape, h.output, h.size, fun i hi => h.block i hi (by simp)⟩
theorem nodes_row {w : World} {ga : Option Addr} {ns : List Nd} (h : NodesAt w ga ns) : CellsAt w ga ns.length (qD ns) := by
  intro hm
  obtain ⟨b, off, e, _, hc⟩ := h 0 hm
  refine ⟨b, off, e, fun j u hj => ?_⟩
  have := nodeCells_src hc j u hj
  rw [Go.WideShapes.add_plain] at this
  exact this
theorem qY {w : World} {b k : Nat} {arr : Array Value} {t : TypeId} {v : Value} (h : w.heap[b]? = some (.cells arr t (0, 0))) : (w.setCell ⟨b, k, none⟩ v).heap[b]? = some (.cells (arr.setIfInBounds k v) t (0, 0)) := by
  rw [setCell_eq_setRow w b k arr t (0, 0) _ h]
  exact setRow_heap w b arr _ _ _ h
theorem qC (w : World) (b k : Nat) (v : Value) : Chg (fun x => x = b) w (w.setCell ⟨b, k, none⟩ v) :=
  ⟨rfl, rfl, rfl, by simp, fun i _ hn => Below.heap_setCell w ⟨b, k, none⟩ v i hn⟩
theorem cells1 {w : World} {g : Nat} {a : Value} (h0 : w.cell? ⟨g, 0, none⟩ = some a) : ∀ j u, [a][j]? = some u → w.cell? ⟨g, j, none⟩ = some u := by
  intro j u hj
  match j, hj with
  | 0, hj => simp at hj; subst hj; exact h0
theorem nodesAt_row {w : World} {base : Nat} {v : Value} {ns : List Nd} (h : w.ownsRow base 32 5 v ns.length (qD ns)) : NodesAt w (vR v) ns := by
  intro i hi
  obtain ⟨g, e, hl, hc⟩ := vH h (by omega)
  refine ⟨g, 0, e, hl, fun j hj => ?_⟩
  simp only [Nat.zero_add]
  have q : ∀ f, f < 5 → ∀ u, (Nd.cells (qV ns j))[f]? = some u → w.cell? ⟨g, j * 5 + f, none⟩ = some u := fun f hf u hu => hc _ _ ((nodeCells_get ns j hj f hf).trans hu)
  exact ⟨q 0 (by omega) _ rfl, q 1 (by omega) _ rfl, q 2 (by omega) _ rfl, q 3 (by omega) _ rfl, q 4 (by omega) _ rfl⟩
theorem qP {α : Type} (l : List α) (i : Nat) (a : α) : l.toArray.setIfInBounds i a = (l.set i a).toArray := by simp
theorem qN {α : Type} (a b : α) (l : List α) : (a :: l).set 0 b = b :: l := rfl
theorem qM {α : Type} (a b : α) (l : List α) (i : Nat) : (a :: l).set (i + 1) b = a :: l.set i b := rfl
def BelIn (w : World) (b o : Nat) (t : TypeId) (arr : Array Value) (T : Nat → Int) : Prop :=
  ∃ arr' : Array Value, w.heap[b]? = some (.cells arr' t (0, 0)) ∧ arr'.size = arr.size ∧ (∀ k, (k < o ∨ o + 384 ≤ k) → arr'[k]? = arr[k]?) ∧ ∀ k, k < 384 → arr'[o + k]? = some (.int .i64 (T k))
theorem BelIn.bel {w : World} {b o : Nat} {t : TypeId} {arr : Array Value} {T : Nat → Int} (h : BelIn w b o t arr T) : BelAt w b o T := by
  obtain ⟨arr', h1, _, _, h4⟩ := h
  exact ⟨(Array.getElem?_eq_some_iff.1 h1).1, fun k hk => qQ h1 (h4 k hk)⟩
theorem BelIn.bw {w w' : World} {b o : Nat} {t : TypeId} {arr : Array Value} {T : Nat → Int} (h : BelIn w b o t arr T) (hb : Bw w w') : BelIn w' b o t arr T := by
  obtain ⟨arr', h1, r⟩ := h
  exact ⟨arr', (Below.block hb _ (Array.getElem?_eq_some_iff.1 h1).1).trans h1, r⟩
theorem BelIn.fr {w : World} {b o : Nat} {t : TypeId} {arr : Array Value} {T : Nat → Int} (h : BelIn w b o t arr T) (k : Nat) : w.frozen? ⟨b, k, none⟩ = false := by
  obtain ⟨arr', h1, _⟩ := h
  exact qZ h1
theorem BelIn.set {w : World} {b o : Nat} {t : TypeId} {arr : Array Value} {T : Nat → Int} (h : BelIn w b o t arr T) {k : Nat} (hk : k < 384) {v : Int} : BelIn (w.setCell ⟨b, o + k, none⟩ (.int .i64 v)) b o t arr (updT T k v) := by
  obtain ⟨arr', h1, h2, h3, h4⟩ := h
  refine ⟨_, qY h1, by simpa using h2, fun j hj => ?_, fun j hj => ?_⟩
  · rw [Array.getElem?_setIfInBounds_ne (by omega)]; exact h3 j hj
  · by_cases e : j = k
    · subst e
      have : o + j < arr'.size := (Array.getElem?_eq_some_iff.1 (h4 j hj)).1
      rw [Array.getElem?_setIfInBounds_self_of_lt this, updT_eq]
    · rw [Array.getElem?_setIfInBounds_ne (by omega), updT_ne _ _ e]; exact h4 j hj
theorem spP_lt {p : Pt} (h : PtOk 8 4 p) : spP 4 p < 384 := by
  obtain ⟨n, e, s, h1, h2, h3, h4, h5, h6⟩ := h
  unfold spP
  rw [h1, h3, h5]
  exact spotN_lt (L := 8) h2 h4 h6
set_option maxRecDepth 100000 in
set_option maxHeartbeats 4000000 in
theorem pbelieve_any (b o : Nat) (t : TypeId) (arr : Array Value) (T : Nat → Int) (ps : List Pt) (pa : Option Addr) (pc : Nat) (w : World) (hps : PtsAt w pa ps) (hok : ∀ j, j < ps.length → PtOk 8 4 (vW ps j)) (hl : ps.length ≤ 1000) (hap : ∀ g off, pa = some ⟨g, off, none⟩ → g ≠ b) (hbel : BelIn w b o t arr T) :
    Calls Try.prog 109 #[.pointer (some ⟨b, o, none⟩), .agg #[.slice pa ps.length pc]] w fun e w' => e = .returned (.tuple #[]) ∧ BelIn w' b o t arr (kS 4 T ps ps.length) ∧ Chg (fun x => x = b) w w' := by
  have hlt0 := hbel.bel.1
  have HB := qJ hbel
  have Hps := qJ hps
  clear hbel hps
  go_enter Try.func109, Try.ntmps109
  go_wp2_with fail
  obtain ⟨w0, hw0⟩ : ∃ w0, w.alloc (.cells #[.slice pa ps.length pc] 183) = w0 := ⟨_, rfl⟩
  have hB0 : Bw w w0 := by rw [← hw0]; exact (by repeat first|exact br _|assumption|apply bd|apply bn|apply ba|refine bt ?_ (by assumption))
  rw [hw0]
  clear hw0
  go_loopw [9] (fun i wr => ∃ k : Nat, k ≤ ps.length ∧ i = .int .i64 k ∧ BelIn wr b o t arr (kS 4 T ps k) ∧ Chg (fun x => x = b) w wr) (fun i _ => ps.length - (intOf i).toNat)
  case atStart => exact ⟨0, Nat.zero_le _, rfl, (qK HB).bw hB0, Chg.bw hB0⟩
  case round =>
    obtain ⟨k, hk, rfl, hbi, hC⟩ := hrel
    rename World => wr
    have hz := hC.size
    by_cases hlt : k < ps.length
    · obtain ⟨g, off, rfl, hg, hc⟩ := (qK Hps) k hlt
      obtain ⟨d0, d1, d2, d3, d4⟩ := hc k hlt
      have hne := hap g off rfl
      have hbk := hC.block g hg hne
      have hcb : ∀ x, wr.cell? ⟨g, x, none⟩ = w.cell? ⟨g, x, none⟩ := fun x => World.cell?_of_block (a := ⟨g, x, none⟩) hbk
      rw [← hcb] at d0 d1 d2 d3 d4
      clear hc hcb hbk
      have hgz : g < wr.heap.size := by omega
      have hp := hok k hlt
      have Hcan := qJ (canB_of hp (by omega) (by omega))
      have Hsp := qJ (spP_lt hp)
      have Hs : Hid (kS 4 T ps (k + 1) = updT (kS 4 T ps k) (spP 4 (vW ps k)) (wrap64 (kS 4 T ps k (spP 4 (vW ps k)) + (vW ps k).count))) := qJ rfl
      obtain ⟨n, ep, s, h1, h2, h3, h4, h5, h6⟩ := hp
      have hsp : spP 4 (vW ps k) = jZ 4 n ep s (vW ps k).out := by unfold spP; rw [h1, h3, h5]; rfl
      rw [hsp] at Hs Hsp
      rw [h1] at d0
      rw [h3] at d2
      rw [h5] at d3
      have Hp : Hid (vW ps k = ⟨n, (vW ps k).out, ep, s, (vW ps k).count⟩) := qJ (by cases hq : vW ps k; simp [hq] at h1 h3 h5; simp [h1, h3, h5])
      rw [qK Hp] at Hcan
      generalize (vW ps k).out = ou at *
      generalize (vW ps k).count = ct at *
      clear h1 h3 h5 hsp Hp
      have hlt1 := hbi.bel.1
      generalize kS 4 T ps k = TT at *
      have Hcell := qJ (fun (w' : World) (h : BelAt w' b o TT) => h.cell (ou := ou) h2 h4 h6)
      have Hset := qJ (fun (w' : World) (h : BelIn w' b o t arr TT) (v : Int) => h.set (qK Hsp) (v := v))
      obtain ⟨p0, p1, hpl⟩ : 0 ≤ plI ou ∧ plI ou < 2 ∧ o + jZ 4 n ep s ou = o + n * 48 + (plI ou).toNat * 24 + ep * 4 + s := by
        refine ⟨by cases ou <;> simp [plI], by cases ou <;> simp [plI], ?_⟩
        rw [spot4_eq]
        cases ou <;> simp [plI] <;> omega
      have Hpl := qJ (fun w => pplaceOf_any ou w)
      have Hadr := qJ hpl
      clear hpl
      generalize plI ou = pl at *
      go_wp2_with fail
      refine (pcanBe_any ⟨n, ou, ep, s, ct⟩ _).mono ?_
      rintro en w1 ⟨rfl, hb1⟩
      rw [qK Hcan]
      have hbx := (Below.block hb1 wr.heap.size (by simp)).trans (heap_alloc_new wr _)
      have x0 := qQ (o := 0) hbx rfl
      have x1 := qQ (o := 1) hbx rfl
      have x2 := qQ (o := 2) hbx rfl
      have x3 := qQ (o := 3) hbx rfl
      have x4 := qQ (o := 4) hbx rfl
      have xl := (Array.getElem?_eq_some_iff.1 hbx).1
      have hB1 : Bw wr w1 := (by repeat first|exact br _|assumption|apply bd|apply bn|apply ba|refine bt ?_ (by assumption))
      have hbi1 := hbi.bw hB1
      have hcell1 := (qK Hcell) w1 hbi1.bel
      have hfr1 := hbi1.fr (o + n * 48 + pl.toNat * 24 + ep * 4 + s)
      have hlt2 := hbi1.bel.1
      have Hset1 := qJ ((qK Hset) w1 hbi1 (wrap64 (TT (jZ 4 n ep s ou) + ct)))
      rw [← qK Hs, qK Hadr] at Hset1
      clear Hs Hset Hcell
      generalize TT (jZ 4 n ep s ou) = tv at *
      have n8 : (n : Int) < 8 := by omega
      have e6 : (ep : Int) < 6 := by omega
      have s4 : (s : Int) < 4 := by omega
      clear hbx hbi hbi1 d0 d1 d2 d3 d4
      go_wp2_with fail
      have hne2 : ¬ wr.heap.size = b := by omega
      have hne3 : ¬ b = wr.heap.size := by omega
      refine wp_region_held_drew (S := (fun w' => w'.cell? ⟨wr.heap.size, 0, none⟩ = some (.int .i64 (n : Int)) ∧ w'.cell? ⟨wr.heap.size, 1, none⟩ = some (.bool ou) ∧ w'.cell? ⟨wr.heap.size, 2, none⟩ = some (.int .i64 (ep : Int)) ∧ w'.cell? ⟨wr.heap.size, 3, none⟩ = some (.int .i64 (s : Int)) ∧ w'.cell? ⟨wr.heap.size, 4, none⟩ = some (.int .i64 ct))) (by kernel_rfl) (by (try dsimp only); go_keep) (fun hHeld => ?_)
      refine wpAnyH_take (i := 0) (v := ?v0) rfl (by kernel_rfl) (by kernel_rfl) (by kernel_rfl) (fun _ _ _ h => h) (Or.inl ⟨by rfl, ?h0⟩) (by assumption) ?r0; (case h0 => intro w S; (try dsimp only at S); go_simp; try with_reducible rfl); try simp only [Act.put, qP, qN, qM]
      refine wpAnyH_take (i := 1) (v := ?v1) rfl (by kernel_rfl) (by kernel_rfl) (by kernel_rfl) (fun _ _ _ h => h) (Or.inl ⟨by rfl, ?h1⟩) (by assumption) ?r1; (case h1 => intro w S; (try dsimp only at S); go_simp; try with_reducible rfl); try simp only [Act.put, qP, qN, qM]
      refine wpAnyH_take (i := 2) (v := ?v2) rfl (by kernel_rfl) (by kernel_rfl) (by kernel_rfl) (fun _ _ _ h => h) (Or.inl ⟨by rfl, ?h2⟩) (by assumption) ?r2; (case h2 => intro w S; (try dsimp only at S); go_simp; try with_reducible rfl); try simp only [Act.put, qP, qN, qM]
      refine wpAnyH_take (i := 3) (v := ?v3) rfl (by kernel_rfl) (by kernel_rfl) (by kernel_rfl) (fun _ _ _ h => h) (Or.inl ⟨by rfl, ?h3⟩) (by assumption) ?r3; (case h3 => intro w S; (try dsimp only at S); go_simp; try with_reducible rfl); try simp only [Act.put, qP, qN, qM]
      refine wpAnyH_take (i := 4) (v := ?v4) rfl (by kernel_rfl) (by kernel_rfl) (by kernel_rfl) (fun _ _ _ h => h) (Or.inl ⟨by rfl, ?h4⟩) (by assumption) ?r4; (case h4 => intro w S; (try dsimp only at S); go_simp; try with_reducible rfl); try simp only [Act.put, qP, qN, qM]
      refine wpAnyH_take (i := 6) (v := ?v6) rfl (by kernel_rfl) (by kernel_rfl) (by kernel_rfl) (fun _ _ _ h => h) (Or.inl ⟨by rfl, ?h6⟩) (by assumption) ?r6; (case h6 => intro w S; (try dsimp only at S); go_simp; try with_reducible rfl); try simp only [Act.put, qP, qN, qM]
      refine wpAnyH_take (i := 7) (v := ?v7) rfl (by kernel_rfl) (by kernel_rfl) (by kernel_rfl) (fun _ _ _ h => h) (Or.inl ⟨by rfl, ?h7⟩) (by assumption) ?r7; (case h7 => intro w S; (try dsimp only at S); go_simp; try with_reducible rfl); try simp only [Act.put, qP, qN, qM]
      refine wpAnyH_take (i := 8) (v := ?v8) rfl (by kernel_rfl) (by kernel_rfl) (by kernel_rfl) (fun _ _ _ h => h) (Or.inl ⟨by rfl, ?h8⟩) (by assumption) ?r8; (case h8 => intro w S; (try dsimp only at S); go_simp; try with_reducible rfl); try simp only [Act.put, qP, qN, qM]
      refine wpAnyH_take (i := 9) (v := ?v9) rfl (by kernel_rfl) (by kernel_rfl) (by kernel_rfl) (fun _ _ _ h => h) (Or.inl ⟨by rfl, ?h9⟩) (by assumption) ?r9; (case h9 => intro w S; (try dsimp only at S); go_simp; try with_reducible rfl); try simp only [Act.put, qP, qN, qM]
      refine wpAnyH_take (i := 10) (v := ?v10) rfl (by kernel_rfl) (by kernel_rfl) (by kernel_rfl) (fun _ _ _ h => h) (Or.inl ⟨by rfl, ?h10⟩) (by assumption) ?r10; (case h10 => intro w S; (try dsimp only at S); go_simp; try with_reducible rfl); try simp only [Act.put, qP, qN, qM]
      refine wpAnyH_take (i := 11) (v := ?v11) rfl (by kernel_rfl) (by kernel_rfl) (by kernel_rfl) (fun _ _ _ h => h) (Or.inl ⟨by rfl, ?h11⟩) (by assumption) ?r11; (case h11 => intro w S; (try dsimp only at S); go_simp; try with_reducible rfl); try simp only [Act.put, qP, qN, qM]
      refine wpAnyH_take (i := 12) (v := ?v12) rfl (by kernel_rfl) (by kernel_rfl) (by kernel_rfl) (fun _ _ _ h => h) (Or.inl ⟨by rfl, ?h12⟩) (by assumption) ?r12; (case h12 => intro w S; (try dsimp only at S); go_simp; try with_reducible rfl); try simp only [Act.put, qP, qN, qM]
      refine wpAnyH_take (i := 17) (v := ?v17) rfl (by kernel_rfl) (by kernel_rfl) (by kernel_rfl) (fun _ _ _ h => h) (Or.inl ⟨by rfl, ?h17⟩) (by assumption) ?r17; (case h17 => intro w S; (try dsimp only at S); go_simp; try with_reducible rfl); try simp only [Act.put, qP, qN, qM]
      refine wpAnyH_take (i := 18) (v := ?v18) rfl (by kernel_rfl) (by kernel_rfl) (by kernel_rfl) (fun _ _ _ h => h) (Or.inl ⟨by rfl, ?h18⟩) (by assumption) ?r18; (case h18 => intro w S; (try dsimp only at S); go_simp; try with_reducible rfl); try simp only [Act.put, qP, qN, qM]
      refine wpAnyH_take (i := 20) (v := ?v20) rfl (by kernel_rfl) (by kernel_rfl) (by kernel_rfl) (fun _ _ _ h => h) (Or.inl ⟨by rfl, ?h20⟩) (by assumption) ?r20; (case h20 => intro w S; (try dsimp only at S); go_simp; try with_reducible rfl); try simp only [Act.put, qP, qN, qM]
      refine wpAnyH_take (i := 21) (v := ?v21) rfl (by kernel_rfl) (by kernel_rfl) (by kernel_rfl) (fun _ _ _ h => h) (Or.inl ⟨by rfl, ?h21⟩) (by assumption) ?r21; (case h21 => intro w S; (try dsimp only at S); go_simp; try with_reducible rfl); try simp only [Act.put, qP, qN, qM]
      refine wpAnyH_take (i := 22) (v := ?v22) rfl (by kernel_rfl) (by kernel_rfl) (by kernel_rfl) (fun _ _ _ h => h) (Or.inl ⟨by rfl, ?h22⟩) (by assumption) ?r22; (case h22 => intro w S; (try dsimp only at S); go_simp; try with_reducible rfl); try simp only [Act.put, qP, qN, qM]
      refine wpAnyH_ready (rs := [5]) (by kernel_rfl) (by simp) ?_
      refine AllReadyH.cons rfl (fun K hK => ?_) AllReadyH.nil
      go_simp
      go_at_call 138
      refine ((qK Hpl) _).mono ?_
      rintro _ _ ⟨rfl, rfl⟩
      (try go_wp2_with fail)
      refine hK.out _ _ (by (try dsimp only); go_keep) (fun hHeld => ?_)
      clear hK K
      try simp only [Act.put, qP, qN, qM]
      refine wpAnyH_take (i := 13) (v := ?v13) rfl (by kernel_rfl) (by kernel_rfl) (by kernel_rfl) (fun _ _ _ h => h) (Or.inl ⟨by rfl, ?h13⟩) (by assumption) ?r13; (case h13 => intro w S; (try dsimp only at S); go_simp; try with_reducible rfl); try simp only [Act.put, qP, qN, qM]
      refine wpAnyH_take (i := 14) (v := ?v14) rfl (by kernel_rfl) (by kernel_rfl) (by kernel_rfl) (fun _ _ _ h => h) (Or.inl ⟨by rfl, ?h14⟩) (by assumption) ?r14; (case h14 => intro w S; (try dsimp only at S); go_simp; try with_reducible rfl); try simp only [Act.put, qP, qN, qM]
      refine wpAnyH_take (i := 15) (v := ?v15) rfl (by kernel_rfl) (by kernel_rfl) (by kernel_rfl) (fun _ _ _ h => h) (Or.inl ⟨by rfl, ?h15⟩) (by assumption) ?r15; (case h15 => intro w S; (try dsimp only at S); go_simp; try with_reducible rfl); try simp only [Act.put, qP, qN, qM]
      refine wpAnyH_take (i := 23) (v := ?v23) rfl (by kernel_rfl) (by kernel_rfl) (by kernel_rfl) (fun _ _ _ h => h) (Or.inl ⟨by rfl, ?h23⟩) (by assumption) ?r23; (case h23 => intro w S; (try dsimp only at S); go_simp; try with_reducible rfl); try simp only [Act.put, qP, qN, qM]
      refine wpAnyH_take (i := 24) (v := ?v24) rfl (by kernel_rfl) (by kernel_rfl) (by kernel_rfl) (fun _ _ _ h => h) (Or.inl ⟨by rfl, ?h24⟩) (by assumption) ?r24; (case h24 => intro w S; (try dsimp only at S); go_simp; try with_reducible rfl); try simp only [Act.put, qP, qN, qM]
      refine wpAnyH_ready (rs := [16]) (by kernel_rfl) (by simp) ?_
      refine AllReadyH.cons rfl (fun K hK => ?_) AllReadyH.nil
      go_simp
      refine hK.out _ _ (by (try dsimp only); go_keep) (fun hHeld => ?_)
      clear hK K
      try simp only [Act.put, qP, qN, qM]
      refine wpAnyH_take (i := 19) (v := ?v19) rfl (by kernel_rfl) (by kernel_rfl) (by kernel_rfl) (fun _ _ _ h => h) (Or.inl ⟨by rfl, ?h19⟩) (by assumption) ?r19; (case h19 => intro w S; (try dsimp only at S); go_simp; try with_reducible rfl); try simp only [Act.put, qP, qN, qM]
      refine wpAnyH_take (i := 25) (v := ?v25) rfl (by kernel_rfl) (by kernel_rfl) (by kernel_rfl) (fun _ _ _ h => h) (Or.inl ⟨by rfl, ?h25⟩) (by assumption) ?r25; (case h25 => intro w S; (try dsimp only at S); go_simp; try with_reducible rfl); try simp only [Act.put, qP, qN, qM]
      refine wpAnyH_ready (rs := [26]) (by kernel_rfl) (by simp) ?_
      refine AllReadyH.cons rfl (fun K hK => ?_) AllReadyH.nil
      go_simp
      refine hK.out _ _ (by (try dsimp only); go_keep) (fun hHeld => ?_)
      clear hK K
      try simp only [Act.put, qP, qN, qM]
      refine wpAnyH_done (by kernel_rfl) ?_ _
      go_wp2_with fail
      go_roundw
      case rel => exact ⟨k + 1, by omega, by go_num, (qK Hset1).bw (by repeat first|exact br _|assumption|apply bd|apply bn|apply ba|refine bt ?_ (by assumption)), (hC.trans (Chg.bw (S := fun x => x = b) hB1) fun _ h => .inl h).trans ((qC _ _ _ _).trans (Chg.bw (S := fun x => x = b) (show Bw (w1.setCell ⟨b, o + n * 48 + pl.toNat * 24 + ep * 4 + s, none⟩ (.int .i64 (wrap64 (tv + ct)))) _ from (by repeat first|exact br _|assumption|apply bd|apply bn|apply ba|refine bt ?_ (by assumption)))) fun _ h => .inl h) (fun _ h => .inl h)⟩
      case measure => simp [intOf]; omega
    · have hkk : k = ps.length := by omega
      subst hkk
      go_wp2_with fail
      go_end0
      exact ⟨rfl, hbi, hC⟩
def one1 (ns : List Nd) (n : Int) (k : Nat) : Int := if qR (qV ns k) n then 0 else -1
def xK (ns : List Nd) (n : Int) : Nat → List Int
  | 0 => []
  | k + 1 => xK ns n k ++ [one1 ns n k]
def toY (ns : List Nd) (fr : List Int) (k : Nat) : Int := if (qV ns k).kind = 4 then jS fr k + 1 else jS fr k
def better (d t : Int) : Int := if d = -1 ∨ t < d then t else d
def zW (ns : List Nd) (fr : List Int) (x : Nat) (d0 : Int) : Nat → Int
  | 0 => d0
  | k + 1 => if jS fr k = -1 ∨ qR (qV ns x) k = false then zW ns fr x d0 k else better (zW ns fr x d0 k) (toY ns fr k)
def moreL (ns : List Nd) (fr : List Int) : Nat → List Int
  | 0 => []
  | k + 1 => moreL ns fr k ++ [zW ns fr k (jS fr k) fr.length]
def xP (ns : List Nd) (n : Int) : Nat → List Int
  | 0 => xK ns n ns.length
  | s + 1 => moreL ns (xP ns n s) (xP ns n s).length
theorem zP (ns : List Nd) (n : Int) (k : Nat) : (xK ns n k).length = k := by
  induction k with
  | zero => rfl
  | succ k ih => simp [xK, ih]
theorem zC (ns : List Nd) (fr : List Int) (k : Nat) : (moreL ns fr k).length = k := by
  induction k with
  | zero => rfl
  | succ k ih => simp [moreL, ih]
theorem distL_len (ns : List Nd) (n : Int) (s : Nat) : (xP ns n s).length = ns.length := by
  induction s with
  | zero => exact zP _ _ _
  | succ s ih => unfold xP; rw [zC, ih]
theorem oneTo_yes {ns : List Nd} {n : Int} {k : Nat} (h : qR (qV ns k) n = true) : xK ns n (k + 1) = xK ns n k ++ [0] := by simp [xK, one1, h]
theorem oneTo_no {ns : List Nd} {n : Int} {k : Nat} (h : qR (qV ns k) n = false) : xK ns n (k + 1) = xK ns n k ++ [-1] := by simp [xK, one1, h]
set_option maxHeartbeats 1000000 in
theorem oneStep_any (ns : List Nd) (ga : Option Addr) (gc : Nat) (r n : Int) (w : World) (hn : NodesAt w ga ns) (hg : ns.length ≤ 8) :
    Calls Try.prog 100 #[.agg #[.slice ga ns.length gc, .int .i64 r], .int .i64 n] w fun e w' => ∃ v, e = .returned v ∧ Own w w' v (xK ns n ns.length) ∧ Bw w w' := by
  go_enter Try.func100, Try.ntmps100
  go_wp2
  go_loopw [5, 12] (fun v i wr => ∃ k : Nat, k ≤ ns.length ∧ i = .int .i64 k ∧ Own (w.alloc (.cells #[.slice ga ns.length gc, .int .i64 r] 24)) wr v (xK ns n k) ∧
      Bw (w.alloc (.cells #[.slice ga ns.length gc, .int .i64 r] 24)) wr)
    (fun _ i _ => ns.length - (intOf i).toNat)
  case atStart => exact ⟨0, Nat.zero_le _, rfl, Own.nil _ _, Bw.refl _⟩
  case round =>
    obtain ⟨k, hk, rfl, hown, hB⟩ := hrel
    obtain ⟨gcc, gff⟩ := qX hB
    have gz : w.heap.size < wr.heap.size := by have := hB.size; simp at this; omega
    have hol := zP ns n k
    have Hol := qJ hol
    clear hol
    by_cases hlt : k < ns.length
    · obtain ⟨b, off, rfl, hb, hc⟩ := hn k hlt
      obtain ⟨c0, c1, c2, c3, c4⟩ := hc k hlt
      clear hc
      cases ht : qR (qV ns k) n with
      | true =>
        have HT := qJ ht
        clear ht
        go_wp2_with (first | (at_builtin; refine app1 _ rfl _ _ rfl _ _ (xK ns n k) rfl (hown.bw (by repeat first|exact br _|assumption|apply bd|apply bn|apply ba|refine bt ?_ (by assumption))) _ _ 0 rfl (by simp) (by have := qK Hol; omega) (by repeat first|exact br _|assumption|apply bd|apply bn|apply ba|refine bt ?_ (by assumption)) ?_; intro v' w1 hown1 hB1 hgr1) | (go_at_call 128; refine (vC (qV ns k) _ _).mono ?_; rintro e w' ⟨rfl, hbl⟩; rw [qK HT]; obtain ⟨hcc, hff⟩ := qX hbl))
        go_roundw
        case rel => exact ⟨k + 1, by omega, by go_num, by rw [oneTo_yes (qK HT)]; exact hown1, hB1⟩
        case measure => simp [intOf]; omega
      | false =>
        have HT := qJ ht
        clear ht
        go_wp2_with (first | (at_builtin; refine app1 _ rfl _ _ rfl _ _ (xK ns n k) rfl (hown.bw (by repeat first|exact br _|assumption|apply bd|apply bn|apply ba|refine bt ?_ (by assumption))) _ _ (-1) rfl (by simp) (by have := qK Hol; omega) (by repeat first|exact br _|assumption|apply bd|apply bn|apply ba|refine bt ?_ (by assumption)) ?_; intro v' w1 hown1 hB1 hgr1) | (go_at_call 128; refine (vC (qV ns k) _ _).mono ?_; rintro e w' ⟨rfl, hbl⟩; rw [qK HT]; obtain ⟨hcc, hff⟩ := qX hbl))
        go_roundw
        case rel => exact ⟨k + 1, by omega, by go_num, by rw [oneTo_no (qK HT)]; exact hown1, hB1⟩
        case measure => simp [intOf]; omega
    · have hkk : k = ns.length := by omega
      subst hkk
      obtain ⟨la, lc, rfl, _, _⟩ := hown.form
      go_wp2
      go_ret
      exact ⟨_, rfl, hown.weaken (by repeat first|exact br _|assumption|apply bd|apply bn|apply ba|refine bt ?_ (by assumption)), (by repeat first|exact br _|assumption|apply bd|apply bn|apply ba|refine bt ?_ (by assumption))⟩
theorem moreTo_skip {ns : List Nd} {fr : List Int} {x : Nat} {d0 : Int} {k : Nat} (h : jS fr k = -1 ∨ qR (qV ns x) k = false) : zW ns fr x d0 (k + 1) = zW ns fr x d0 k := by
  rw [zW, if_pos h]
theorem moreTo_go {ns : List Nd} {fr : List Int} {x : Nat} {d0 : Int} {k : Nat} (h1 : jS fr k ≠ -1) (h2 : qR (qV ns x) k = true) : zW ns fr x d0 (k + 1) = better (zW ns fr x d0 k) (toY ns fr k) := by
  rw [zW, if_neg (by rw [h2]; simp [h1])]
theorem better_yes {d t : Int} (h : d = -1 ∨ t < d) : better d t = t := by unfold better; rw [if_pos h]
theorem better_no {d t : Int} (h1 : d ≠ -1) (h2 : d ≤ t) : better d t = d := by unfold better; rw [if_neg (by omega)]
theorem toY_back {ns : List Nd} {fr : List Int} {k : Nat} (h : (qV ns k).kind = 4) : toY ns fr k = jS fr k + 1 := by simp [toY, h]
theorem toY_not {ns : List Nd} {fr : List Int} {k : Nat} (h : (qV ns k).kind ≠ 4) : toY ns fr k = jS fr k := by simp [toY, h]
def Low (c : Int) (fr : List Int) : Prop := ∀ j, j < fr.length → -1 ≤ jS fr j ∧ jS fr j ≤ c
theorem moreTo_bd {ns : List Nd} {fr : List Int} {x : Nat} {d0 c : Int} (hf : Low c fr) (h1 : -1 ≤ d0) (h2 : d0 ≤ c + 1) : ∀ k, k ≤ fr.length → -1 ≤ zW ns fr x d0 k ∧ zW ns fr x d0 k ≤ c + 1 := by
  intro k hk
  induction k with
  | zero => exact ⟨h1, h2⟩
  | succ k ih =>
    have ih := ih (by omega)
    have := hf k (by omega)
    unfold zW
    split
    · exact ih
    · unfold better toY
      split <;> split <;> omega
theorem moreL_low {ns : List Nd} {fr : List Int} {c : Int} (hf : Low c fr) : ∀ k, k ≤ fr.length → Low (c + 1) (moreL ns fr k) := by
  intro k hk
  induction k with
  | zero => intro j hj; simp [moreL] at hj
  | succ k ih =>
    have ih := ih (by omega)
    intro j hj
    rw [zC] at hj
    rw [zD (by rw [zC]; exact hj)]
    unfold moreL
    by_cases e : j < k
    · rw [List.getElem_append_left (by rw [zC]; exact e), ← zD (by rw [zC]; exact e)]
      exact ih j (by rw [zC]; exact e)
    · have : j = (moreL ns fr k).length := by rw [zC]; omega
      subst this
      simp
      have hk2 := hf k (by omega)
      exact moreTo_bd hf (by omega) (by omega) _ (Nat.le_refl _)
theorem distL_low (ns : List Nd) (n : Int) (s : Nat) : Low s (xP ns n s) := by
  induction s with
  | zero =>
    have h : ∀ k, Low 0 (xK ns n k) := by
      intro k
      induction k with
      | zero => intro j hj; simp [xK] at hj
      | succ k ih =>
        intro j hj
        rw [zP] at hj
        rw [zD (by rw [zP]; exact hj)]
        unfold xK
        by_cases e : j < k
        · rw [List.getElem_append_left (by rw [zP]; exact e), ← zD (by rw [zP]; exact e)]
          exact ih j (by rw [zP]; exact e)
        · have : j = (xK ns n k).length := by rw [zP]; omega
          subst this
          simp [one1]
          split <;> omega
    exact h _
  | succ s ih =>
    unfold xP
    have := moreL_low (ns := ns) ih _ (Nat.le_refl _)
    intro j hj
    have := this j hj
    omega
set_option maxRecDepth 100000 in
set_option maxHeartbeats 4000000 in
theorem oneMore_any (ns : List Nd) (ga : Option Addr) (gc : Nat) (r : Int) (fr : List Int) (fa : Option Addr) (fc : Nat) (w : World) (hn : NodesAt w ga ns) (hx : IntsAt w fa fr) (hg : ns.length ≤ 8) (hl1 : fr.length ≤ ns.length) (hlow : Low 8 fr) :
    Calls Try.prog 101 #[.agg #[.slice ga ns.length gc, .int .i64 r], .slice fa fr.length fc] w fun e w' => ∃ v, e = .returned v ∧ Own w w' v (moreL ns fr fr.length) ∧ Bw w w' := by
  go_enter Try.func101, Try.ntmps101
  go_wp2_with fail
  go_loopw [5, 12] (fun v i wr => ∃ k : Nat, k ≤ fr.length ∧ i = .int .i64 k ∧ Own (w.alloc (.cells #[.slice ga ns.length gc, .int .i64 r] 24)) wr v (moreL ns fr k) ∧ Bw (w.alloc (.cells #[.slice ga ns.length gc, .int .i64 r] 24)) wr) (fun _ i _ => fr.length - (intOf i).toNat)
  case atStart => exact ⟨0, Nat.zero_le _, rfl, Own.nil _ _, Bw.refl _⟩
  case round =>
    obtain ⟨k, hk, rfl, hown, hB⟩ := hrel
    rename World => wo
    have Hml := qJ (zC ns fr k)
    by_cases hlt : k < fr.length
    · obtain ⟨bf, of, rfl, hbf, hcf⟩ := hx k hlt
      have hfk := hcf k hlt
      have Hcf := qJ hcf
      clear hcf
      obtain ⟨b, off, rfl, hb, hc⟩ := hn k (by omega)
      obtain ⟨c0, c1, c2, c3, c4⟩ := hc k (by omega)
      have Hc := qJ hc
      clear hc
      have hbk := hlow k hlt
      have Hmb := qJ (fun y (hy : y ≤ fr.length) => moreTo_bd (ns := ns) (x := k) hlow hbk.1 (by omega) y hy)
      obtain ⟨gcc, gff⟩ := qX hB
      have gz : w.heap.size < wo.heap.size := by have := hB.size; simp at this; omega
      go_wp2_with fail
      go_loopw [7, 19] (fun d i wi => ∃ y : Nat, y ≤ fr.length ∧ i = .int .i64 y ∧ d = .int .i64 (zW ns fr k (jS fr k) y) ∧ Bw wo wi) (fun _ i _ => fr.length - (intOf i).toNat)
      case atStart => exact ⟨0, Nat.zero_le _, rfl, rfl, Bw.refl _⟩
      case round =>
        obtain ⟨y, hy, rfl, rfl, hBi⟩ := hrel
        have hBw : Bw (w.alloc (.cells #[.slice (some ⟨b, off, none⟩) ns.length gc, .int .i64 r] 24)) wr := (by repeat first|exact br _|assumption|apply bd|apply bn|apply ba|refine bt ?_ (by assumption))
        clear gcc gff gz
        obtain ⟨gcc, gff⟩ := qX hBw
        have gz : w.heap.size < wr.heap.size := by have := hBw.size; simp at this; omega
        by_cases hyl : y < fr.length
        · have hfy := (qK Hcf) y hyl
          obtain ⟨e0, _⟩ := (qK Hc) y (by omega)
          have hby := hlow y hyl
          have hbd := (qK Hmb) y hy
          have gzb : b < wr.heap.size := by omega
          have Hskip := qJ (@moreTo_skip ns fr k (jS fr k) y)
          have Hgo := qJ (@moreTo_go ns fr k (jS fr k) y)
          have Hy4 := qJ (@toY_back ns fr y)
          have Hyn := qJ (@toY_not ns fr y)
          generalize hdd : zW ns fr k (jS fr k) y = dd at hbd Hskip Hgo
          generalize hff : jS fr y = fy at hfy hby Hskip Hgo Hy4 Hyn
          have Hdd := qJ hdd
          clear hdd hff
          by_cases hm1 : fy = -1
          · have hm2 : (fy == -1) = true := by simp [hm1]
            have Hs := qJ ((qK Hskip) (.inl hm1))
            clear hm1
            go_wp2_with fail
            go_roundw
            case rel => exact ⟨y + 1, by omega, by go_num, by rw [qK Hs], (by repeat first|exact br _|assumption|apply bd|apply bn|apply ba|refine bt ?_ (by assumption))⟩
            case measure => simp [intOf]; omega
          · have hm2 : (fy == -1) = false := by simpa using hm1
            cases ht : qR (qV ns k) y with
            | false =>
              have HT := qJ ht
              have Hs := qJ ((qK Hskip) (.inr ht))
              clear ht hm1
              go_wp2_with (go_at_call 128; refine (vC (qV ns k) _ _).mono ?_; rintro e w' ⟨rfl, hbl⟩; rw [qK HT]; obtain ⟨hcc, hff⟩ := qX hbl)
              go_roundw
              case rel => exact ⟨y + 1, by omega, by go_num, by rw [qK Hs], (by repeat first|exact br _|assumption|apply bd|apply bn|apply ba|refine bt ?_ (by assumption))⟩
              case measure => simp [intOf]; omega
            | true =>
              have HT := qJ ht
              have Hs := qJ ((qK Hgo) hm1 ht)
              clear ht hm1
              by_cases h4 : (qV ns y).kind = 4
              · have h4' : ((qV ns y).kind == 4) = true := by simp [h4]
                have Hy := qJ ((qK Hy4) h4)
                clear h4
                by_cases hd1 : dd = -1
                · have hd2 : (dd == -1) = true := by simp [hd1]
                  have Hb := qJ (better_yes (t := fy + 1) (.inl hd1))
                  clear hd1
                  go_wp2_with (go_at_call 128; refine (vC (qV ns k) _ _).mono ?_; rintro e w' ⟨rfl, hbl⟩; rw [qK HT]; obtain ⟨hcc, hff⟩ := qX hbl)
                  go_roundw
                  case rel => exact ⟨y + 1, by omega, by go_num, by rw [qK Hs, qK Hy, qK Hb], (by repeat first|exact br _|assumption|apply bd|apply bn|apply ba|refine bt ?_ (by assumption))⟩
                  case measure => simp [intOf]; omega
                · have hd2 : (dd == -1) = false := by simpa using hd1
                  by_cases hd3 : fy + 1 < dd
                  · have Hb := qJ (better_yes (.inr hd3))
                    clear hd1
                    go_wp2_with (go_at_call 128; refine (vC (qV ns k) _ _).mono ?_; rintro e w' ⟨rfl, hbl⟩; rw [qK HT]; obtain ⟨hcc, hff⟩ := qX hbl)
                    go_roundw
                    case rel => exact ⟨y + 1, by omega, by go_num, by rw [qK Hs, qK Hy, qK Hb], (by repeat first|exact br _|assumption|apply bd|apply bn|apply ba|refine bt ?_ (by assumption))⟩
                    case measure => simp [intOf]; omega
                  · have Hb := qJ (better_no hd1 (by omega : dd ≤ fy + 1))
                    clear hd1
                    go_wp2_with (go_at_call 128; refine (vC (qV ns k) _ _).mono ?_; rintro e w' ⟨rfl, hbl⟩; rw [qK HT]; obtain ⟨hcc, hff⟩ := qX hbl)
                    go_roundw
                    case rel => exact ⟨y + 1, by omega, by go_num, by rw [qK Hs, qK Hy, qK Hb], (by repeat first|exact br _|assumption|apply bd|apply bn|apply ba|refine bt ?_ (by assumption))⟩
                    case measure => simp [intOf]; omega
              · have h4' : ((qV ns y).kind == 4) = false := by simpa using h4
                have Hy := qJ ((qK Hyn) h4)
                clear h4
                by_cases hd1 : dd = -1
                · have hd2 : (dd == -1) = true := by simp [hd1]
                  have Hb := qJ (better_yes (t := fy) (.inl hd1))
                  clear hd1
                  go_wp2_with (go_at_call 128; refine (vC (qV ns k) _ _).mono ?_; rintro e w' ⟨rfl, hbl⟩; rw [qK HT]; obtain ⟨hcc, hff⟩ := qX hbl)
                  go_roundw
                  case rel => exact ⟨y + 1, by omega, by go_num, by rw [qK Hs, qK Hy, qK Hb], (by repeat first|exact br _|assumption|apply bd|apply bn|apply ba|refine bt ?_ (by assumption))⟩
                  case measure => simp [intOf]; omega
                · have hd2 : (dd == -1) = false := by simpa using hd1
                  by_cases hd3 : fy < dd
                  · have Hb := qJ (better_yes (.inr hd3))
                    clear hd1
                    go_wp2_with (go_at_call 128; refine (vC (qV ns k) _ _).mono ?_; rintro e w' ⟨rfl, hbl⟩; rw [qK HT]; obtain ⟨hcc, hff⟩ := qX hbl)
                    go_roundw
                    case rel => exact ⟨y + 1, by omega, by go_num, by rw [qK Hs, qK Hy, qK Hb], (by repeat first|exact br _|assumption|apply bd|apply bn|apply ba|refine bt ?_ (by assumption))⟩
                    case measure => simp [intOf]; omega
                  · have Hb := qJ (better_no hd1 (by omega : dd ≤ fy))
                    clear hd1
                    go_wp2_with (go_at_call 128; refine (vC (qV ns k) _ _).mono ?_; rintro e w' ⟨rfl, hbl⟩; rw [qK HT]; obtain ⟨hcc, hff⟩ := qX hbl)
                    go_roundw
                    case rel => exact ⟨y + 1, by omega, by go_num, by rw [qK Hs, qK Hy, qK Hb], (by repeat first|exact br _|assumption|apply bd|apply bn|apply ba|refine bt ?_ (by assumption))⟩
                    case measure => simp [intOf]; omega
        · have hyy : y = fr.length := by omega
          subst hyy
          go_wp2_with (at_builtin; refine app1 _ rfl _ _ rfl _ _ (moreL ns fr k) rfl (hown.bw (by repeat first|exact br _|assumption|apply bd|apply bn|apply ba|refine bt ?_ (by assumption))) _ _ (zW ns fr k (jS fr k) fr.length) rfl (by simp) (by have := qK Hml; omega) (by repeat first|exact br _|assumption|apply bd|apply bn|apply ba|refine bt ?_ (by assumption)) ?_; intro v' w1 hown1 hB1 hgr1)
          go_roundw
          case rel => exact ⟨k + 1, by omega, by go_num, hown1, hB1⟩
          case measure => simp [intOf]; omega
    · have hkk : k = fr.length := by omega
      subst hkk
      obtain ⟨la, lc, rfl, _, _⟩ := hown.form
      go_wp2_with fail
      go_ret
      exact ⟨_, rfl, hown.weaken (by repeat first|exact br _|assumption|apply bd|apply bn|apply ba|refine bt ?_ (by assumption)), (by repeat first|exact br _|assumption|apply bd|apply bn|apply ba|refine bt ?_ (by assumption))⟩
end Go.Proofs.Ytfemleimkbjehaa
