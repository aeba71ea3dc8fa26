import Derived.Test.YtfemleimkbjehaaGreatPB1
import Derived.Test.YtfemleimkbjehaaGreatRunO
import Derived.Deep.RegionHeld3
import Derived.Test.YtfemleimkbjehaaGreatJ7
namespace Go.Proofs.YtfemleimkbjehaaGreat
set_option linter.unusedVariables false
set_option linter.unusedSimpArgs false
open Go.RowKit

/-- A block whose 384 cells from o on are a worker's beliefs; the others as in arr. -/
def BelIn (w : World) (b o : Nat) (t : TypeId) (arr : Array Value) (T : Nat → Int) : Prop :=
  ∃ arr' : Array Value, w.heap[b]? = some (.cells arr' t (0, 0)) ∧ arr'.size = arr.size ∧ (∀ k, (k < o ∨ o + 384 ≤ k) → arr'[k]? = arr[k]?) ∧ ∀ k, k < 384 → arr'[o + k]? = some (.int .i64 (T k))
theorem BelIn.bel {w : World} {b o : Nat} {t : TypeId} {arr : Array Value} {T : Nat → Int} (h : BelIn w b o t arr T) : BelAt w b o T := by
  obtain ⟨arr', h1, _, _, h4⟩ := h
  exact ⟨(Array.getElem?_eq_some_iff.1 h1).1, fun k hk => cell_of_block h1 (h4 k hk)⟩
theorem BelIn.bw {w w' : World} {b o : Nat} {t : TypeId} {arr : Array Value} {T : Nat → Int} (h : BelIn w b o t arr T) (hb : Bw w w') : BelIn w' b o t arr T := by
  obtain ⟨arr', h1, r⟩ := h
  exact ⟨arr', (Below.block hb _ (Array.getElem?_eq_some_iff.1 h1).1).trans h1, r⟩
theorem BelIn.fr {w : World} {b o : Nat} {t : TypeId} {arr : Array Value} {T : Nat → Int} (h : BelIn w b o t arr T) (k : Nat) : w.frozen? ⟨b, k, none⟩ = false := by
  obtain ⟨arr', h1, _⟩ := h
  exact frozen_of_block h1
theorem BelIn.set {w : World} {b o : Nat} {t : TypeId} {arr : Array Value} {T : Nat → Int} (h : BelIn w b o t arr T) {k : Nat} (hk : k < 384) {v : Int} : BelIn (w.setCell ⟨b, o + k, none⟩ (.int .i64 v)) b o t arr (updT T k v) := by
  obtain ⟨arr', h1, h2, h3, h4⟩ := h
  refine ⟨_, heap_setCell_at h1, by simpa using h2, fun j hj => ?_, fun j hj => ?_⟩
  · rw [Array.getElem?_setIfInBounds_ne (by omega)]; exact h3 j hj
  · by_cases e : j = k
    · subst e
      have : o + j < arr'.size := (Array.getElem?_eq_some_iff.1 (h4 j hj)).1
      rw [Array.getElem?_setIfInBounds_self_of_lt this, updT_eq]
    · rw [Array.getElem?_setIfInBounds_ne (by omega), updT_ne _ _ e]; exact h4 j hj
theorem spP_lt {p : Pt} (h : PtOk 8 4 p) : spP 4 p < 384 := by
  obtain ⟨n, e, s, h1, h2, h3, h4, h5, h6⟩ := h
  unfold spP
  rw [h1, h3, h5]
  exact spotN_lt (L := 8) h2 h4 h6

set_option maxRecDepth 100000 in
set_option maxHeartbeats 4000000 in
theorem pbelieve_any (b o : Nat) (t : TypeId) (arr : Array Value) (T : Nat → Int) (ps : List Pt) (pa : Option Addr) (pc : Nat) (w : World) (hps : PtsAt w pa ps) (hok : ∀ j, j < ps.length → PtOk 8 4 (ptn ps j)) (hl : ps.length ≤ 1000) (hap : ∀ g off, pa = some ⟨g, off, none⟩ → g ≠ b) (hbel : BelIn w b o t arr T) :
    Calls Tryz.prog 52 #[.pointer (some ⟨b, o, none⟩), .agg #[.slice pa ps.length pc]] w fun e w' => e = .returned (.tuple #[]) ∧ BelIn w' b o t arr (tabPts 4 T ps ps.length) ∧ Chg (fun x => x = b) w w' := by
  have hlt0 := hbel.bel.1
  have HB := hide hbel
  have Hps := hide hps
  clear hbel hps
  go_enter Tryz.func52, Tryz.ntmps52
  go_wp2_with fail
  obtain ⟨w0, hw0⟩ : ∃ w0, w.alloc (.cells #[.slice pa ps.length pc] 121) = w0 := ⟨_, rfl⟩
  have hB0 : Bw w w0 := by rw [← hw0]; exact (by repeat (first | exact Bw.refl _ | assumption | refine Bw.drew ?_ | refine Bw.drewN ?_ _ | refine Bw.alloc ?_ _ | refine Bw.trans ?_ (by assumption)))
  rw [hw0]
  clear hw0
  go_loopw [9] (fun i wr => ∃ k : Nat, k ≤ ps.length ∧ i = .int .i64 k ∧ BelIn wr b o t arr (tabPts 4 T ps k) ∧ Chg (fun x => x = b) w wr) (fun i _ => ps.length - (intOf i).toNat)
  case atStart => exact ⟨0, Nat.zero_le _, rfl, (unhide HB).bw hB0, Chg.bw hB0⟩
  case round =>
    obtain ⟨k, hk, rfl, hbi, hC⟩ := hrel
    rename World => wr
    have hz := hC.size
    by_cases hlt : k < ps.length
    · obtain ⟨g, off, rfl, hg, hc⟩ := (unhide Hps) k hlt
      obtain ⟨d0, d1, d2, d3, d4⟩ := hc k hlt
      have hne := hap g off rfl
      have hbk := hC.block g hg hne
      have hcb : ∀ x, wr.cell? ⟨g, x, none⟩ = w.cell? ⟨g, x, none⟩ := fun x => World.cell?_of_block (a := ⟨g, x, none⟩) hbk
      rw [← hcb] at d0 d1 d2 d3 d4
      clear hc hcb hbk
      have hgz : g < wr.heap.size := by omega
      have hp := hok k hlt
      have Hcan := hide (canB_of hp (by omega) (by omega))
      have Hsp := hide (spP_lt hp)
      have Hs : Hid (tabPts 4 T ps (k + 1) = updT (tabPts 4 T ps k) (spP 4 (ptn ps k)) (wrap64 (tabPts 4 T ps k (spP 4 (ptn ps k)) + (ptn ps k).count))) := hide rfl
      obtain ⟨n, ep, s, h1, h2, h3, h4, h5, h6⟩ := hp
      have hsp : spP 4 (ptn ps k) = spotN 4 n ep s (ptn ps k).out := by unfold spP; rw [h1, h3, h5]; rfl
      rw [hsp] at Hs Hsp
      rw [h1] at d0
      rw [h3] at d2
      rw [h5] at d3
      have Hp : Hid (ptn ps k = ⟨n, (ptn ps k).out, ep, s, (ptn ps k).count⟩) := hide (by cases hq : ptn ps k; simp [hq] at h1 h3 h5; simp [h1, h3, h5])
      rw [unhide Hp] at Hcan
      generalize (ptn ps k).out = ou at *
      generalize (ptn ps k).count = ct at *
      clear h1 h3 h5 hsp Hp
      have hlt1 := hbi.bel.1
      generalize tabPts 4 T ps k = TT at *
      have Hcell := hide (fun (w' : World) (h : BelAt w' b o TT) => h.cell (ou := ou) h2 h4 h6)
      have Hset := hide (fun (w' : World) (h : BelIn w' b o t arr TT) (v : Int) => h.set (unhide Hsp) (v := v))
      obtain ⟨p0, p1, hpl⟩ : 0 ≤ plI ou ∧ plI ou < 2 ∧ o + spotN 4 n ep s ou = o + n * 48 + (plI ou).toNat * 24 + ep * 4 + s := by
        refine ⟨by cases ou <;> simp [plI], by cases ou <;> simp [plI], ?_⟩
        rw [spot4_eq]
        cases ou <;> simp [plI] <;> omega
      have Hpl := hide (fun w => pplaceOf_any ou w)
      have Hadr := hide hpl
      clear hpl
      generalize plI ou = pl at *
      go_wp2_with fail
      refine (pcanBe_any ⟨n, ou, ep, s, ct⟩ _).mono ?_
      rintro en w1 ⟨rfl, hb1⟩
      rw [unhide Hcan]
      have hbx := (Below.block hb1 wr.heap.size (by simp)).trans (heap_alloc_new wr _)
      have x0 := cell_of_block (o := 0) hbx rfl
      have x1 := cell_of_block (o := 1) hbx rfl
      have x2 := cell_of_block (o := 2) hbx rfl
      have x3 := cell_of_block (o := 3) hbx rfl
      have x4 := cell_of_block (o := 4) hbx rfl
      have xl := (Array.getElem?_eq_some_iff.1 hbx).1
      have hB1 : Bw wr w1 := (by repeat (first | exact Bw.refl _ | assumption | refine Bw.drew ?_ | refine Bw.drewN ?_ _ | refine Bw.alloc ?_ _ | refine Bw.trans ?_ (by assumption)))
      have hbi1 := hbi.bw hB1
      have hcell1 := (unhide Hcell) w1 hbi1.bel
      have hfr1 := hbi1.fr (o + n * 48 + pl.toNat * 24 + ep * 4 + s)
      have hlt2 := hbi1.bel.1
      have Hset1 := hide ((unhide Hset) w1 hbi1 (wrap64 (TT (spotN 4 n ep s ou) + ct)))
      rw [← unhide Hs, unhide Hadr] at Hset1
      clear Hs Hset Hcell
      generalize TT (spotN 4 n ep s ou) = tv at *
      have n8 : (n : Int) < 8 := by omega
      have e6 : (ep : Int) < 6 := by omega
      have s4 : (s : Int) < 4 := by omega
      clear hbx hbi hbi1 d0 d1 d2 d3 d4
      go_wp2_with fail
      have hne2 : ¬ wr.heap.size = b := by omega
      have hne3 : ¬ b = wr.heap.size := by omega
      refine wp_region_held_drew (S := (fun w' => w'.cell? ⟨wr.heap.size, 0, none⟩ = some (.int .i64 (n : Int)) ∧ w'.cell? ⟨wr.heap.size, 1, none⟩ = some (.bool ou) ∧ w'.cell? ⟨wr.heap.size, 2, none⟩ = some (.int .i64 (ep : Int)) ∧ w'.cell? ⟨wr.heap.size, 3, none⟩ = some (.int .i64 (s : Int)) ∧ w'.cell? ⟨wr.heap.size, 4, none⟩ = some (.int .i64 ct))) (by kernel_rfl) (by (try dsimp only); go_keep) (fun hHeld => ?_)
      refine wpAnyH_take (i := 0) (v := ?v0) rfl (by kernel_rfl) (by kernel_rfl) (by kernel_rfl) (fun _ _ _ h => h) (Or.inl ⟨by rfl, ?hy0⟩) (by assumption) ?rest0; (case hy0 => (intro w hSw; (try dsimp only at hSw); go_simp; (try with_reducible rfl))); (try simp only [Act.put, List.setIfInBounds_toArray, List.set_cons_zero, List.set_cons_succ])
      refine wpAnyH_take (i := 1) (v := ?v1) rfl (by kernel_rfl) (by kernel_rfl) (by kernel_rfl) (fun _ _ _ h => h) (Or.inl ⟨by rfl, ?hy1⟩) (by assumption) ?rest1; (case hy1 => (intro w hSw; (try dsimp only at hSw); go_simp; (try with_reducible rfl))); (try simp only [Act.put, List.setIfInBounds_toArray, List.set_cons_zero, List.set_cons_succ])
      refine wpAnyH_take (i := 2) (v := ?v2) rfl (by kernel_rfl) (by kernel_rfl) (by kernel_rfl) (fun _ _ _ h => h) (Or.inl ⟨by rfl, ?hy2⟩) (by assumption) ?rest2; (case hy2 => (intro w hSw; (try dsimp only at hSw); go_simp; (try with_reducible rfl))); (try simp only [Act.put, List.setIfInBounds_toArray, List.set_cons_zero, List.set_cons_succ])
      refine wpAnyH_take (i := 3) (v := ?v3) rfl (by kernel_rfl) (by kernel_rfl) (by kernel_rfl) (fun _ _ _ h => h) (Or.inl ⟨by rfl, ?hy3⟩) (by assumption) ?rest3; (case hy3 => (intro w hSw; (try dsimp only at hSw); go_simp; (try with_reducible rfl))); (try simp only [Act.put, List.setIfInBounds_toArray, List.set_cons_zero, List.set_cons_succ])
      refine wpAnyH_take (i := 4) (v := ?v4) rfl (by kernel_rfl) (by kernel_rfl) (by kernel_rfl) (fun _ _ _ h => h) (Or.inl ⟨by rfl, ?hy4⟩) (by assumption) ?rest4; (case hy4 => (intro w hSw; (try dsimp only at hSw); go_simp; (try with_reducible rfl))); (try simp only [Act.put, List.setIfInBounds_toArray, List.set_cons_zero, List.set_cons_succ])
      refine wpAnyH_take (i := 6) (v := ?v6) rfl (by kernel_rfl) (by kernel_rfl) (by kernel_rfl) (fun _ _ _ h => h) (Or.inl ⟨by rfl, ?hy6⟩) (by assumption) ?rest6; (case hy6 => (intro w hSw; (try dsimp only at hSw); go_simp; (try with_reducible rfl))); (try simp only [Act.put, List.setIfInBounds_toArray, List.set_cons_zero, List.set_cons_succ])
      refine wpAnyH_take (i := 7) (v := ?v7) rfl (by kernel_rfl) (by kernel_rfl) (by kernel_rfl) (fun _ _ _ h => h) (Or.inl ⟨by rfl, ?hy7⟩) (by assumption) ?rest7; (case hy7 => (intro w hSw; (try dsimp only at hSw); go_simp; (try with_reducible rfl))); (try simp only [Act.put, List.setIfInBounds_toArray, List.set_cons_zero, List.set_cons_succ])
      refine wpAnyH_take (i := 8) (v := ?v8) rfl (by kernel_rfl) (by kernel_rfl) (by kernel_rfl) (fun _ _ _ h => h) (Or.inl ⟨by rfl, ?hy8⟩) (by assumption) ?rest8; (case hy8 => (intro w hSw; (try dsimp only at hSw); go_simp; (try with_reducible rfl))); (try simp only [Act.put, List.setIfInBounds_toArray, List.set_cons_zero, List.set_cons_succ])
      refine wpAnyH_take (i := 9) (v := ?v9) rfl (by kernel_rfl) (by kernel_rfl) (by kernel_rfl) (fun _ _ _ h => h) (Or.inl ⟨by rfl, ?hy9⟩) (by assumption) ?rest9; (case hy9 => (intro w hSw; (try dsimp only at hSw); go_simp; (try with_reducible rfl))); (try simp only [Act.put, List.setIfInBounds_toArray, List.set_cons_zero, List.set_cons_succ])
      refine wpAnyH_take (i := 10) (v := ?v10) rfl (by kernel_rfl) (by kernel_rfl) (by kernel_rfl) (fun _ _ _ h => h) (Or.inl ⟨by rfl, ?hy10⟩) (by assumption) ?rest10; (case hy10 => (intro w hSw; (try dsimp only at hSw); go_simp; (try with_reducible rfl))); (try simp only [Act.put, List.setIfInBounds_toArray, List.set_cons_zero, List.set_cons_succ])
      refine wpAnyH_take (i := 11) (v := ?v11) rfl (by kernel_rfl) (by kernel_rfl) (by kernel_rfl) (fun _ _ _ h => h) (Or.inl ⟨by rfl, ?hy11⟩) (by assumption) ?rest11; (case hy11 => (intro w hSw; (try dsimp only at hSw); go_simp; (try with_reducible rfl))); (try simp only [Act.put, List.setIfInBounds_toArray, List.set_cons_zero, List.set_cons_succ])
      refine wpAnyH_take (i := 12) (v := ?v12) rfl (by kernel_rfl) (by kernel_rfl) (by kernel_rfl) (fun _ _ _ h => h) (Or.inl ⟨by rfl, ?hy12⟩) (by assumption) ?rest12; (case hy12 => (intro w hSw; (try dsimp only at hSw); go_simp; (try with_reducible rfl))); (try simp only [Act.put, List.setIfInBounds_toArray, List.set_cons_zero, List.set_cons_succ])
      refine wpAnyH_take (i := 17) (v := ?v17) rfl (by kernel_rfl) (by kernel_rfl) (by kernel_rfl) (fun _ _ _ h => h) (Or.inl ⟨by rfl, ?hy17⟩) (by assumption) ?rest17; (case hy17 => (intro w hSw; (try dsimp only at hSw); go_simp; (try with_reducible rfl))); (try simp only [Act.put, List.setIfInBounds_toArray, List.set_cons_zero, List.set_cons_succ])
      refine wpAnyH_take (i := 18) (v := ?v18) rfl (by kernel_rfl) (by kernel_rfl) (by kernel_rfl) (fun _ _ _ h => h) (Or.inl ⟨by rfl, ?hy18⟩) (by assumption) ?rest18; (case hy18 => (intro w hSw; (try dsimp only at hSw); go_simp; (try with_reducible rfl))); (try simp only [Act.put, List.setIfInBounds_toArray, List.set_cons_zero, List.set_cons_succ])
      refine wpAnyH_take (i := 20) (v := ?v20) rfl (by kernel_rfl) (by kernel_rfl) (by kernel_rfl) (fun _ _ _ h => h) (Or.inl ⟨by rfl, ?hy20⟩) (by assumption) ?rest20; (case hy20 => (intro w hSw; (try dsimp only at hSw); go_simp; (try with_reducible rfl))); (try simp only [Act.put, List.setIfInBounds_toArray, List.set_cons_zero, List.set_cons_succ])
      refine wpAnyH_take (i := 21) (v := ?v21) rfl (by kernel_rfl) (by kernel_rfl) (by kernel_rfl) (fun _ _ _ h => h) (Or.inl ⟨by rfl, ?hy21⟩) (by assumption) ?rest21; (case hy21 => (intro w hSw; (try dsimp only at hSw); go_simp; (try with_reducible rfl))); (try simp only [Act.put, List.setIfInBounds_toArray, List.set_cons_zero, List.set_cons_succ])
      refine wpAnyH_take (i := 22) (v := ?v22) rfl (by kernel_rfl) (by kernel_rfl) (by kernel_rfl) (fun _ _ _ h => h) (Or.inl ⟨by rfl, ?hy22⟩) (by assumption) ?rest22; (case hy22 => (intro w hSw; (try dsimp only at hSw); go_simp; (try with_reducible rfl))); (try simp only [Act.put, List.setIfInBounds_toArray, List.set_cons_zero, List.set_cons_succ])
      refine wpAnyH_ready (rs := [5]) (by kernel_rfl) (by simp) ?_
      refine AllReadyH.cons rfl (fun K hK => ?_) AllReadyH.nil
      go_simp
      go_at_call 83
      refine ((unhide Hpl) _).mono ?_
      rintro _ _ ⟨rfl, rfl⟩
      (try go_wp2_with fail)
      refine hK.out _ _ (by (try dsimp only); go_keep) (fun hHeld => ?_)
      clear hK K
      try simp only [Act.put, List.setIfInBounds_toArray, List.set_cons_zero, List.set_cons_succ]
      refine wpAnyH_take (i := 13) (v := ?v13) rfl (by kernel_rfl) (by kernel_rfl) (by kernel_rfl) (fun _ _ _ h => h) (Or.inl ⟨by rfl, ?hy13⟩) (by assumption) ?rest13; (case hy13 => (intro w hSw; (try dsimp only at hSw); go_simp; (try with_reducible rfl))); (try simp only [Act.put, List.setIfInBounds_toArray, List.set_cons_zero, List.set_cons_succ])
      refine wpAnyH_take (i := 14) (v := ?v14) rfl (by kernel_rfl) (by kernel_rfl) (by kernel_rfl) (fun _ _ _ h => h) (Or.inl ⟨by rfl, ?hy14⟩) (by assumption) ?rest14; (case hy14 => (intro w hSw; (try dsimp only at hSw); go_simp; (try with_reducible rfl))); (try simp only [Act.put, List.setIfInBounds_toArray, List.set_cons_zero, List.set_cons_succ])
      refine wpAnyH_take (i := 15) (v := ?v15) rfl (by kernel_rfl) (by kernel_rfl) (by kernel_rfl) (fun _ _ _ h => h) (Or.inl ⟨by rfl, ?hy15⟩) (by assumption) ?rest15; (case hy15 => (intro w hSw; (try dsimp only at hSw); go_simp; (try with_reducible rfl))); (try simp only [Act.put, List.setIfInBounds_toArray, List.set_cons_zero, List.set_cons_succ])
      refine wpAnyH_take (i := 23) (v := ?v23) rfl (by kernel_rfl) (by kernel_rfl) (by kernel_rfl) (fun _ _ _ h => h) (Or.inl ⟨by rfl, ?hy23⟩) (by assumption) ?rest23; (case hy23 => (intro w hSw; (try dsimp only at hSw); go_simp; (try with_reducible rfl))); (try simp only [Act.put, List.setIfInBounds_toArray, List.set_cons_zero, List.set_cons_succ])
      refine wpAnyH_take (i := 24) (v := ?v24) rfl (by kernel_rfl) (by kernel_rfl) (by kernel_rfl) (fun _ _ _ h => h) (Or.inl ⟨by rfl, ?hy24⟩) (by assumption) ?rest24; (case hy24 => (intro w hSw; (try dsimp only at hSw); go_simp; (try with_reducible rfl))); (try simp only [Act.put, List.setIfInBounds_toArray, List.set_cons_zero, List.set_cons_succ])
      refine wpAnyH_ready (rs := [16]) (by kernel_rfl) (by simp) ?_
      refine AllReadyH.cons rfl (fun K hK => ?_) AllReadyH.nil
      go_simp
      refine hK.out _ _ (by (try dsimp only); go_keep) (fun hHeld => ?_)
      clear hK K
      try simp only [Act.put, List.setIfInBounds_toArray, List.set_cons_zero, List.set_cons_succ]
      refine wpAnyH_take (i := 19) (v := ?v19) rfl (by kernel_rfl) (by kernel_rfl) (by kernel_rfl) (fun _ _ _ h => h) (Or.inl ⟨by rfl, ?hy19⟩) (by assumption) ?rest19; (case hy19 => (intro w hSw; (try dsimp only at hSw); go_simp; (try with_reducible rfl))); (try simp only [Act.put, List.setIfInBounds_toArray, List.set_cons_zero, List.set_cons_succ])
      refine wpAnyH_take (i := 25) (v := ?v25) rfl (by kernel_rfl) (by kernel_rfl) (by kernel_rfl) (fun _ _ _ h => h) (Or.inl ⟨by rfl, ?hy25⟩) (by assumption) ?rest25; (case hy25 => (intro w hSw; (try dsimp only at hSw); go_simp; (try with_reducible rfl))); (try simp only [Act.put, List.setIfInBounds_toArray, List.set_cons_zero, List.set_cons_succ])
      refine wpAnyH_ready (rs := [26]) (by kernel_rfl) (by simp) ?_
      refine AllReadyH.cons rfl (fun K hK => ?_) AllReadyH.nil
      go_simp
      refine hK.out _ _ (by (try dsimp only); go_keep) (fun hHeld => ?_)
      clear hK K
      try simp only [Act.put, List.setIfInBounds_toArray, List.set_cons_zero, List.set_cons_succ]
      refine wpAnyH_done (by kernel_rfl) ?_ _
      go_wp2_with fail
      go_roundw
      case rel => exact ⟨k + 1, by omega, by go_num, (unhide Hset1).bw (by repeat (first | exact Bw.refl _ | assumption | refine Bw.drew ?_ | refine Bw.drewN ?_ _ | refine Bw.alloc ?_ _ | refine Bw.trans ?_ (by assumption))), (hC.trans (Chg.bw (S := fun x => x = b) hB1) fun _ h => .inl h).trans ((chg_set _ _ _ _).trans (Chg.bw (S := fun x => x = b) (show Bw (w1.setCell ⟨b, o + n * 48 + pl.toNat * 24 + ep * 4 + s, none⟩ (.int .i64 (wrap64 (tv + ct)))) _ from (by repeat (first | exact Bw.refl _ | assumption | refine Bw.drew ?_ | refine Bw.drewN ?_ _ | refine Bw.alloc ?_ _ | refine Bw.trans ?_ (by assumption))))) fun _ h => .inl h) (fun _ h => .inl h)⟩
      case measure => simp [intOf]; omega
    · have hkk : k = ps.length := by omega
      subst hkk
      go_wp2_with fail
      go_end0
      exact ⟨rfl, hbi, hC⟩
end Go.Proofs.YtfemleimkbjehaaGreat
namespace Go.Proofs.YtfemleimkbjehaaGreat
set_option linter.unusedVariables false
set_option linter.unusedSimpArgs false
open Go.RowKit

def one1 (ns : List Nd) (n : Int) (k : Nat) : Int := if takesB (ndn ns k) n then 0 else -1
def oneTo (ns : List Nd) (n : Int) : Nat → List Int
  | 0 => []
  | k + 1 => oneTo ns n k ++ [one1 ns n k]
/-- The distance to x over one step more, the nodes ahead of k gone over. -/
def toY (ns : List Nd) (fr : List Int) (k : Nat) : Int := if (ndn ns k).kind = 4 then nth fr k + 1 else nth fr k
def better (d t : Int) : Int := if d = -1 ∨ t < d then t else d
def moreTo (ns : List Nd) (fr : List Int) (x : Nat) (d0 : Int) : Nat → Int
  | 0 => d0
  | k + 1 => if nth fr k = -1 ∨ takesB (ndn ns x) k = false then moreTo ns fr x d0 k else better (moreTo ns fr x d0 k) (toY ns fr k)
def moreL (ns : List Nd) (fr : List Int) : Nat → List Int
  | 0 => []
  | k + 1 => moreL ns fr k ++ [moreTo ns fr k (nth fr k) fr.length]
def distL (ns : List Nd) (n : Int) : Nat → List Int
  | 0 => oneTo ns n ns.length
  | s + 1 => moreL ns (distL ns n s) (distL ns n s).length

theorem oneTo_len (ns : List Nd) (n : Int) (k : Nat) : (oneTo ns n k).length = k := by
  induction k with
  | zero => rfl
  | succ k ih => simp [oneTo, ih]
theorem moreL_len (ns : List Nd) (fr : List Int) (k : Nat) : (moreL ns fr k).length = k := by
  induction k with
  | zero => rfl
  | succ k ih => simp [moreL, ih]
theorem distL_len (ns : List Nd) (n : Int) (s : Nat) : (distL ns n s).length = ns.length := by
  induction s with
  | zero => exact oneTo_len _ _ _
  | succ s ih => unfold distL; rw [moreL_len, ih]
theorem oneTo_yes {ns : List Nd} {n : Int} {k : Nat} (h : takesB (ndn ns k) n = true) : oneTo ns n (k + 1) = oneTo ns n k ++ [0] := by simp [oneTo, one1, h]
theorem oneTo_no {ns : List Nd} {n : Int} {k : Nat} (h : takesB (ndn ns k) n = false) : oneTo ns n (k + 1) = oneTo ns n k ++ [-1] := by simp [oneTo, one1, h]

set_option maxHeartbeats 1000000 in
theorem oneStep_any (ns : List Nd) (ga : Option Addr) (gc : Nat) (r n : Int) (w : World) (hn : NodesAt w ga ns) (hg : ns.length ≤ 8) :
    Calls Tryz.prog 109 #[.agg #[.slice ga ns.length gc, .int .i64 r], .int .i64 n] w fun e w' => ∃ v, e = .returned v ∧ Own w w' v (oneTo ns n ns.length) ∧ Bw w w' := by
  go_enter Tryz.func109, Tryz.ntmps109
  go_wp2
  go_loopw [5, 12] (fun v i wr => ∃ k : Nat, k ≤ ns.length ∧ i = .int .i64 k ∧ Own (w.alloc (.cells #[.slice ga ns.length gc, .int .i64 r] 24)) wr v (oneTo ns n k) ∧
      Bw (w.alloc (.cells #[.slice ga ns.length gc, .int .i64 r] 24)) wr)
    (fun _ i _ => ns.length - (intOf i).toNat)
  case atStart => exact ⟨0, Nat.zero_le _, rfl, Own.nil _ _, Bw.refl _⟩
  case round =>
    obtain ⟨k, hk, rfl, hown, hB⟩ := hrel
    obtain ⟨gcc, gff⟩ := bcell hB
    have gz : w.heap.size < wr.heap.size := by have := hB.size; simp at this; omega
    have hol := oneTo_len ns n k
    have Hol := hide hol
    clear hol
    by_cases hlt : k < ns.length
    · obtain ⟨b, off, rfl, hb, hc⟩ := hn k hlt
      obtain ⟨c0, c1, c2, c3, c4⟩ := hc k hlt
      clear hc
      cases ht : takesB (ndn ns k) n with
      | true =>
        have HT := hide ht
        clear ht
        go_wp2_with (first | (at_builtin; refine app1 _ rfl _ _ rfl _ _ (oneTo ns n k) rfl (hown.bw (by repeat (first | exact Bw.refl _ | assumption | refine Bw.drew ?_ | refine Bw.drewN ?_ _ | refine Bw.alloc ?_ _ | refine Bw.trans ?_ (by assumption)))) _ _ 0 rfl (by simp) (by have := unhide Hol; omega) (by repeat (first | exact Bw.refl _ | assumption | refine Bw.drew ?_ | refine Bw.drewN ?_ _ | refine Bw.alloc ?_ _ | refine Bw.trans ?_ (by assumption))) ?_; intro v' w1 hown1 hB1 hgr1) | (go_at_call 112; refine (takes_any (ndn ns k) _ _).mono ?_; rintro e w' ⟨rfl, hbl⟩; rw [unhide HT]; obtain ⟨hcc, hff⟩ := bcell hbl))
        go_roundw
        case rel => exact ⟨k + 1, by omega, by go_num, by rw [oneTo_yes (unhide HT)]; exact hown1, hB1⟩
        case measure => simp [intOf]; omega
      | false =>
        have HT := hide ht
        clear ht
        go_wp2_with (first | (at_builtin; refine app1 _ rfl _ _ rfl _ _ (oneTo ns n k) rfl (hown.bw (by repeat (first | exact Bw.refl _ | assumption | refine Bw.drew ?_ | refine Bw.drewN ?_ _ | refine Bw.alloc ?_ _ | refine Bw.trans ?_ (by assumption)))) _ _ (-1) rfl (by simp) (by have := unhide Hol; omega) (by repeat (first | exact Bw.refl _ | assumption | refine Bw.drew ?_ | refine Bw.drewN ?_ _ | refine Bw.alloc ?_ _ | refine Bw.trans ?_ (by assumption))) ?_; intro v' w1 hown1 hB1 hgr1) | (go_at_call 112; refine (takes_any (ndn ns k) _ _).mono ?_; rintro e w' ⟨rfl, hbl⟩; rw [unhide HT]; obtain ⟨hcc, hff⟩ := bcell hbl))
        go_roundw
        case rel => exact ⟨k + 1, by omega, by go_num, by rw [oneTo_no (unhide HT)]; exact hown1, hB1⟩
        case measure => simp [intOf]; omega
    · have hkk : k = ns.length := by omega
      subst hkk
      obtain ⟨la, lc, rfl, _, _⟩ := hown.form
      go_wp2
      go_ret
      exact ⟨_, rfl, hown.weaken (by repeat (first | exact Bw.refl _ | assumption | refine Bw.drew ?_ | refine Bw.drewN ?_ _ | refine Bw.alloc ?_ _ | refine Bw.trans ?_ (by assumption))), (by repeat (first | exact Bw.refl _ | assumption | refine Bw.drew ?_ | refine Bw.drewN ?_ _ | refine Bw.alloc ?_ _ | refine Bw.trans ?_ (by assumption)))⟩

theorem moreTo_skip {ns : List Nd} {fr : List Int} {x : Nat} {d0 : Int} {k : Nat} (h : nth fr k = -1 ∨ takesB (ndn ns x) k = false) : moreTo ns fr x d0 (k + 1) = moreTo ns fr x d0 k := by
  rw [moreTo, if_pos h]
theorem moreTo_go {ns : List Nd} {fr : List Int} {x : Nat} {d0 : Int} {k : Nat} (h1 : nth fr k ≠ -1) (h2 : takesB (ndn ns x) k = true) : moreTo ns fr x d0 (k + 1) = better (moreTo ns fr x d0 k) (toY ns fr k) := by
  rw [moreTo, if_neg (by rw [h2]; simp [h1])]
theorem better_yes {d t : Int} (h : d = -1 ∨ t < d) : better d t = t := by unfold better; rw [if_pos h]
theorem better_no {d t : Int} (h1 : d ≠ -1) (h2 : d ≤ t) : better d t = d := by unfold better; rw [if_neg (by omega)]
theorem toY_back {ns : List Nd} {fr : List Int} {k : Nat} (h : (ndn ns k).kind = 4) : toY ns fr k = nth fr k + 1 := by simp [toY, h]
theorem toY_not {ns : List Nd} {fr : List Int} {k : Nat} (h : (ndn ns k).kind ≠ 4) : toY ns fr k = nth fr k := by simp [toY, h]
/-- Numbers that are distances: none above c. -/
def Low (c : Int) (fr : List Int) : Prop := ∀ j, j < fr.length → -1 ≤ nth fr j ∧ nth fr j ≤ c
theorem moreTo_bd {ns : List Nd} {fr : List Int} {x : Nat} {d0 c : Int} (hf : Low c fr) (h1 : -1 ≤ d0) (h2 : d0 ≤ c + 1) : ∀ k, k ≤ fr.length → -1 ≤ moreTo ns fr x d0 k ∧ moreTo ns fr x d0 k ≤ c + 1 := by
  intro k hk
  induction k with
  | zero => exact ⟨h1, h2⟩
  | succ k ih =>
    have ih := ih (by omega)
    have := hf k (by omega)
    unfold moreTo
    split
    · exact ih
    · unfold better toY
      split <;> split <;> omega
theorem moreL_low {ns : List Nd} {fr : List Int} {c : Int} (hf : Low c fr) : ∀ k, k ≤ fr.length → Low (c + 1) (moreL ns fr k) := by
  intro k hk
  induction k with
  | zero => intro j hj; simp [moreL] at hj
  | succ k ih =>
    have ih := ih (by omega)
    intro j hj
    rw [moreL_len] at hj
    rw [nth_lt (by rw [moreL_len]; exact hj)]
    unfold moreL
    by_cases e : j < k
    · rw [List.getElem_append_left (by rw [moreL_len]; exact e), ← nth_lt (by rw [moreL_len]; exact e)]
      exact ih j (by rw [moreL_len]; exact e)
    · have : j = (moreL ns fr k).length := by rw [moreL_len]; omega
      subst this
      simp
      have hk2 := hf k (by omega)
      exact moreTo_bd hf (by omega) (by omega) _ (Nat.le_refl _)
theorem distL_low (ns : List Nd) (n : Int) (s : Nat) : Low s (distL ns n s) := by
  induction s with
  | zero =>
    have h : ∀ k, Low 0 (oneTo ns n k) := by
      intro k
      induction k with
      | zero => intro j hj; simp [oneTo] at hj
      | succ k ih =>
        intro j hj
        rw [oneTo_len] at hj
        rw [nth_lt (by rw [oneTo_len]; exact hj)]
        unfold oneTo
        by_cases e : j < k
        · rw [List.getElem_append_left (by rw [oneTo_len]; exact e), ← nth_lt (by rw [oneTo_len]; exact e)]
          exact ih j (by rw [oneTo_len]; exact e)
        · have : j = (oneTo ns n k).length := by rw [oneTo_len]; omega
          subst this
          simp [one1]
          split <;> omega
    exact h _
  | succ s ih =>
    unfold distL
    have := moreL_low (ns := ns) ih _ (Nat.le_refl _)
    intro j hj
    have := this j hj
    omega
end Go.Proofs.YtfemleimkbjehaaGreat
