import Derived.Test.YtfemleimkbjehaaGreatJ32
import Derived.Test.YtfemleimkbjehaaGreatJ10
import Derived.Test.YtfemleimkbjehaaGreatJ1
import Derived.Deep.WholeRow
namespace Go.Proofs.YtfemleimkbjehaaGreat
set_option linter.unusedVariables false
set_option linter.unusedSimpArgs false
open Go.RowKit

/-- The points of the beginning. -/
def begL (ns : List Nd) (W : Nat) : Nat → List Pt
  | 0 => []
  | k + 1 => if (ndn ns k).kind == 0 then begL ns W k ++ [⟨k, true, 0, 0, W⟩] else begL ns W k
theorem begL_len (ns : List Nd) (W k : Nat) : (begL ns W k).length ≤ k := by
  induction k with
  | zero => simp [begL]
  | succ k ih => unfold begL; split <;> (try simp) <;> omega
theorem begL_ok {ns : List Nd} {W : Nat} (h8 : ns.length ≤ 8) : ∀ k, k ≤ ns.length → ∀ p ∈ begL ns W k, PtOk 8 4 p := by
  intro k
  induction k with
  | zero => intro _ p hp; simp [begL] at hp
  | succ k ih =>
    intro hk p hp
    unfold begL at hp
    split at hp
    · rcases List.mem_append.1 hp with h | h
      · exact ih (by omega) p h
      · simp at h
        subst h
        exact ⟨k, 0, 0, rfl, by omega, rfl, by omega, rfl, by omega⟩
    · exact ih (by omega) p hp

set_option maxRecDepth 100000 in
set_option maxHeartbeats 4000000 in
theorem pbeg_any (ns : List Nd) (ga : Option Addr) (gc W : Nat) (r : Int) (w : World) (hn : NodesAt w ga ns) (h8 : ns.length ≤ 8) (hW : W ≤ 4) :
    Calls Tryz.prog 51 #[.agg #[.slice ga ns.length gc, .int .i64 r], .int .i64 (W : Int)] w fun e w' => ∃ v, e = .returned (.agg #[v]) ∧ OwnP w w' v (begL ns W ns.length) ∧ Bw w w' := by
  go_enter Tryz.func51, Tryz.ntmps51
  go_wp2_with fail
  obtain ⟨w0, hw0⟩ : ∃ w0, ((w.alloc (.cells #[.slice ga ns.length gc, .int .i64 r] 24)).alloc (.cells #[.slice none 0 0] 121)).alloc (.cells #[.slice none 0 0] 121) = w0 := ⟨_, rfl⟩
  have hA := alloc3 w (.cells #[.slice ga ns.length gc, .int .i64 r] 24) (.cells #[.slice none 0 0] 121) (.cells #[.slice none 0 0] 121)
  rw [hw0] at hA
  rw [hw0]
  obtain ⟨hg0, hd0, hc0, hB0⟩ := hA
  clear hw0 hg0
  obtain ⟨gb, hgb⟩ : ∃ gb, w.heap.size = gb := ⟨_, rfl⟩
  rw [hgb] at hd0 hc0
  rw [hgb]
  obtain ⟨db, hdb⟩ : ∃ db, gb + 1 = db := ⟨_, rfl⟩
  obtain ⟨cb, hcb⟩ : ∃ cb, gb + 1 + 1 = cb := ⟨_, rfl⟩
  rw [hcb] at hc0
  rw [hdb] at hd0
  simp only [hcb]
  simp only [hdb]
  have hq : w.heap.size ≤ cb ∧ w.heap.size ≤ db ∧ db ≠ cb := by omega
  clear hgb hdb hcb
  go_loopw [11] (fun i wr => ∃ (k : Nat) (v : Value), k ≤ ns.length ∧ i = .int .i64 k ∧ wr.heap[db]? = some (.cells #[.slice none 0 0] 121 (0, 0)) ∧ wr.heap[cb]? = some (.cells #[v] 121 (0, 0)) ∧ OwnP w wr v (begL ns W k) ∧ Bw w wr) (fun i _ => ns.length - (intOf i).toNat)
  case atStart => exact ⟨0, _, Nat.zero_le _, rfl, hd0, hc0, OwnP.nil _ _, hB0⟩
  case round =>
    clear hd0 hc0 hB0
    obtain ⟨k, v, hk, rfl, hd, hc, ho, hB⟩ := hrel
    rename World => wr
    have hle := begL_len ns W k
    obtain ⟨va, vc, hve⟩ : ∃ va vc, v = .slice va (begL ns W k).length vc := ⟨_, _, ownsRow_val ho⟩
    subst hve
    have dl := (Array.getElem?_eq_some_iff.1 hd).1
    have cl := (Array.getElem?_eq_some_iff.1 hc).1
    by_cases hlt : k < ns.length
    · obtain ⟨b, off, rfl, hb, hcn⟩ := (hn.below hB) k hlt
      obtain ⟨c0, c1, c2, c3, c4⟩ := hcn k hlt
      clear hcn
      have Hbl : Hid (begL ns W (k + 1) = if (ndn ns k).kind == 0 then begL ns W k ++ [⟨k, true, 0, 0, W⟩] else begL ns W k) := hide rfl
      have Hd := hide hd
      have Hc := hide hc
      cases hk0 : ((ndn ns k).kind == 0) with
      | false =>
        have Hs : Hid (begL ns W (k + 1) = begL ns W k) := hide (by rw [unhide Hbl, hk0]; rfl)
        generalize begL ns W k = L at *
        generalize ndn ns k = y at *
        clear hd hc
        go_wp2_with fail
        go_roundw
        case rel => exact ⟨k + 1, _, by omega, by go_num, (Below.block (show Bw wr _ from (by repeat (first | exact Bw.refl _ | assumption | refine Bw.drew ?_ | refine Bw.drewN ?_ _ | refine Bw.alloc ?_ _ | refine Bw.trans ?_ (by assumption)))) _ dl).trans (unhide Hd), (Below.block (show Bw wr _ from (by repeat (first | exact Bw.refl _ | assumption | refine Bw.drew ?_ | refine Bw.drewN ?_ _ | refine Bw.alloc ?_ _ | refine Bw.trans ?_ (by assumption)))) _ cl).trans (unhide Hc), by rw [unhide Hs]; exact ho.bw (by repeat (first | exact Bw.refl _ | assumption | refine Bw.drew ?_ | refine Bw.drewN ?_ _ | refine Bw.alloc ?_ _ | refine Bw.trans ?_ (by assumption))), (by repeat (first | exact Bw.refl _ | assumption | refine Bw.drew ?_ | refine Bw.drewN ?_ _ | refine Bw.alloc ?_ _ | refine Bw.trans ?_ (by assumption)))⟩
        case measure => simp [intOf]; omega
      | true =>
        have Hs : Hid (begL ns W (k + 1) = begL ns W k ++ [⟨k, true, 0, 0, W⟩]) := hide (by rw [unhide Hbl, hk0]; rfl)
        generalize begL ns W k = L at *
        generalize ndn ns k = y at *
        have x0 := cell_of_block (o := 0) hc rfl
        clear hd hc
        go_wp2_with fail
        go_region_law (first | (refine stepL rfl _ _ _ 67 rfl _ 5 40 Tryz.infoPoint Tryz.underlying63 rfl (by decide) w.heap.size (.slice va L.length vc) L.length (ptsCells L) rfl (ho.bw (by repeat (first | exact Bw.refl _ | assumption | refine Bw.drew ?_ | refine Bw.drewN ?_ _ | refine Bw.alloc ?_ _ | refine Bw.trans ?_ (by assumption)))) _ _ (Pt.cells ⟨k, true, 0, 0, W⟩) rfl rfl (pt_cells (cell_of_block (alloc_at _ _ (by simp)) rfl) (cell_of_block (alloc_at _ _ (by simp)) rfl) (cell_of_block (alloc_at _ _ (by simp)) rfl) (cell_of_block (alloc_at _ _ (by simp)) rfl) (cell_of_block (alloc_at _ _ (by simp)) rfl)) (pt_one _) (by omega) (by omega) (Bw.size (show Bw w _ from (by repeat (first | exact Bw.refl _ | assumption | refine Bw.drew ?_ | refine Bw.drewN ?_ _ | refine Bw.alloc ?_ _ | refine Bw.trans ?_ (by assumption))))) ?_; intro g6 cap6 w6 ho6 hg6 hl6; have hc6 := hide (grown_block (ho.bw (show Bw wr _ from (by repeat (first | exact Bw.refl _ | assumption | refine Bw.drew ?_ | refine Bw.drewN ?_ _ | refine Bw.alloc ?_ _ | refine Bw.trans ?_ (by assumption))))) hg6 ((Below.block (show Bw wr _ from (by repeat (first | exact Bw.refl _ | assumption | refine Bw.drew ?_ | refine Bw.drewN ?_ _ | refine Bw.alloc ?_ _ | refine Bw.trans ?_ (by assumption)))) _ cl).trans (unhide Hc)) (.inl (by decide))); have hd6 := hide (grown_block (ho.bw (show Bw wr _ from (by repeat (first | exact Bw.refl _ | assumption | refine Bw.drew ?_ | refine Bw.drewN ?_ _ | refine Bw.alloc ?_ _ | refine Bw.trans ?_ (by assumption))))) hg6 ((Below.block (show Bw wr _ from (by repeat (first | exact Bw.refl _ | assumption | refine Bw.drew ?_ | refine Bw.drewN ?_ _ | refine Bw.alloc ?_ _ | refine Bw.trans ?_ (by assumption)))) _ dl).trans (unhide Hd)) (.inl (by decide))); have hB6 := bw_own (W := w) (ho.bw (show Bw wr _ from (by repeat (first | exact Bw.refl _ | assumption | refine Bw.drew ?_ | refine Bw.drewN ?_ _ | refine Bw.alloc ?_ _ | refine Bw.trans ?_ (by assumption))))) hg6 (by repeat (first | exact Bw.refl _ | assumption | refine Bw.drew ?_ | refine Bw.drewN ?_ _ | refine Bw.alloc ?_ _ | refine Bw.trans ?_ (by assumption))) (Nat.le_refl _); have z0 := cell_of_block (o := 0) (unhide hc6) rfl; have zf := frozen_of_block (o := 0) (unhide hc6); have zl := (Array.getElem?_eq_some_iff.1 (unhide hc6)).1) | (go_simp; go_at_call 81; refine (pout_any _ _ _ _ _).mono ?_; rintro e1 w1 ⟨rfl, hb1⟩; simp only [Pt.val]; have hx1 := (Below.block (show Bw wr w1 from (by repeat (first | exact Bw.refl _ | assumption | refine Bw.drew ?_ | refine Bw.drewN ?_ _ | refine Bw.alloc ?_ _ | refine Bw.trans ?_ (by assumption)))) _ cl).trans (unhide Hc); have x1 := cell_of_block (o := 0) hx1 rfl; have x1l := (Array.getElem?_eq_some_iff.1 hx1).1; clear hx1))
        all_goals (
          go_wp2_with fail
          go_roundw
          case rel =>
            refine ⟨k + 1, _, by omega, by go_num, ?_, (heap_setCell_at (unhide hc6)).trans rfl, ?_, ?_⟩
            · exact (Below.heap_setCell w6 ⟨cb, 0, none⟩ _ db hq.2.2).trans (unhide hd6)
            · rw [unhide Hs]; exact ownsRow_setT (unhide hc6) (OwnP.snoc ho6) (by decide)
            · exact Bw.setCell hB6 hq.1 _
          case measure => simp [intOf]; omega)
    · have hkk : k = ns.length := by omega
      subst hkk
      have d0 := cell_of_block (o := 0) hd rfl
      have df := frozen_of_block (o := 0) hd
      have x0 := cell_of_block (o := 0) hc rfl
      have hds := cell_of_block (o := 0) (heap_setCell_at (k := 0) (v := .slice va (begL ns W ns.length).length vc) hd) rfl
      have hos := ownsRow_setT (k := 0) (u := .slice va (begL ns W ns.length).length vc) hd ho (by decide)
      clear hc hd ho
      go_wp2_with fail
      refine bodyPost_ret (v := .agg #[.slice va (begL ns W ns.length).length vc]) (by simp [results, Tryz.results51, go_sem, hds]) rfl ⟨_, rfl, hos, ?_⟩
      exact Bw.setCell hB hq.2.1 _
end Go.Proofs.YtfemleimkbjehaaGreat
namespace Go.Proofs.YtfemleimkbjehaaGreat
set_option linter.unusedVariables false
set_option linter.unusedSimpArgs false
open Go.RowKit

/-- A worker's cells at first. -/
def zwA : List Value := (List.replicate 8 [Value.int .i64 0, Value.bool false]).flatten
theorem zwA_len : zwA.length = 16 := rfl
/-- A tally's cells at first: which times are wanted; the groups. -/
def zwT : List Value := List.replicate 24 (Value.bool false) ++ (List.replicate 24 (List.replicate 8 (Value.int .i64 0) ++ List.replicate 8 (Value.bool false))).flatten
theorem zwT_len : zwT.length = 408 := by kernel_rfl
/-- What lies ahead of the beliefs. -/
def zwH : List Value := zwA ++ (List.replicate 16 (Value.slice none 0 0) ++ (List.replicate 8 zwT).flatten)
theorem zwH_len : zwH.length = 3296 := by simp [zwH, zwA_len, zwT_len]
def zwL : List Value := zwH ++ (List.replicate 384 (Value.int .i64 0) ++ List.replicate 4 (Value.slice none 0 0))
theorem Tryz.infoWorker : (Tryz.prog.info? 147).map (fun i => (i.zero, i.size, i.bytes)) = some (some (.agg zwL.toArray), 3684, 17696) := by kernel_rfl
theorem zwL_len : zwL.length = 3684 := by simp only [zwL, List.length_append, List.length_replicate, zwH_len]
theorem zwL_src : ∀ n, n < 8 → zwL[n * 2]? = some (.int .i64 0) ∧ zwL[n * 2 + 1]? = some (.bool false) := by
  intro n hn
  unfold zwL
  rw [List.getElem?_append_left (by rw [zwH_len]; omega), List.getElem?_append_left (by rw [zwH_len]; omega)]
  unfold zwH
  rw [List.getElem?_append_left (by rw [zwA_len]; omega), List.getElem?_append_left (by rw [zwA_len]; omega)]
  match n, hn with
  | 0, _ | 1, _ | 2, _ | 3, _ | 4, _ | 5, _ | 6, _ | 7, _ => exact ⟨rfl, rfl⟩
theorem zwL_wait : ∀ n, n < 8 → zwL[16 + n]? = some (.slice none 0 0) := by
  intro n hn
  unfold zwL
  rw [List.getElem?_append_left (by rw [zwH_len]; omega)]
  unfold zwH
  rw [List.getElem?_append_right (by rw [zwA_len]; omega), zwA_len, List.getElem?_append_left (by rw [List.length_replicate]; omega), List.getElem?_replicate, if_pos (by omega)]
theorem zwL_bel : ∀ k, k < 384 → zwL[3296 + k]? = some (.int .i64 0) := by
  intro n hn
  unfold zwL
  rw [List.getElem?_append_right (by rw [zwH_len]; omega), zwH_len, List.getElem?_append_left (by rw [List.length_replicate]; omega), List.getElem?_replicate, if_pos (by omega)]
theorem zwL_way : ∀ j, j < 4 → zwL[3680 + j]? = some (.slice none 0 0) := by
  intro n hn
  unfold zwL
  rw [List.getElem?_append_right (by rw [zwH_len]; omega), zwH_len, List.getElem?_append_right (by rw [List.length_replicate]; omega), List.length_replicate, List.getElem?_replicate, if_pos (by omega)]
theorem zwL_own : ∀ v ∈ zwL, Value.ownBlock v = none ∧ v.oneCell' = true := by
  intro v hv
  simp only [zwL, zwH, zwT, zwA, List.mem_append, List.mem_flatten, List.mem_replicate] at hv
  rcases hv with (⟨l, ⟨_, rfl⟩, hv⟩ | ⟨_, rfl⟩ | ⟨l, ⟨_, rfl⟩, hv⟩) | ⟨_, rfl⟩ | ⟨_, rfl⟩
  · simp at hv
    rcases hv with rfl | rfl <;> exact ⟨rfl, rfl⟩
  · exact ⟨rfl, rfl⟩
  · simp only [List.mem_append, List.mem_flatten, List.mem_replicate] at hv
    rcases hv with ⟨_, rfl⟩ | ⟨l, ⟨_, rfl⟩, hv⟩
    · exact ⟨rfl, rfl⟩
    · simp only [List.mem_append, List.mem_replicate] at hv
      rcases hv with ⟨_, rfl⟩ | ⟨_, rfl⟩ <;> exact ⟨rfl, rfl⟩
  · exact ⟨rfl, rfl⟩
  · exact ⟨rfl, rfl⟩
/-- A worker's cells, with its beliefs. -/
def wkL (T : Nat → Int) : List Value := (List.range 3684).map fun k => if 3296 ≤ k ∧ k < 3680 then .int .i64 (T (k - 3296)) else zwL.getD k undef
theorem wkL_len (T : Nat → Int) : (wkL T).length = 3684 := by rw [wkL, List.length_map, List.length_range]
theorem wkL_bel (T : Nat → Int) {k : Nat} (hk : k < 384) : (wkL T)[3296 + k]? = some (.int .i64 (T k)) := by
  unfold wkL
  rw [List.getElem?_map, List.getElem?_range (by omega)]
  simp [show 3296 + k < 3680 by omega]
theorem wkL_other (T : Nat → Int) {k : Nat} (hk : k < 3296 ∨ 3680 ≤ k) : (wkL T)[k]? = zwL[k]? := by
  unfold wkL
  by_cases h : k < 3684
  · rw [List.getElem?_map, List.getElem?_range h, Option.map_some, if_neg (by omega), List.getD, List.getElem?_eq_getElem (by rw [zwL_len]; exact h)]
    rfl
  · rw [List.getElem?_eq_none (by simp; omega), List.getElem?_eq_none (by rw [zwL_len]; omega)]
theorem wkL_own (T : Nat → Int) : ∀ v ∈ wkL T, Value.ownBlock v = none ∧ v.oneCell' = true := by
  intro v hv
  simp only [wkL, List.mem_map, List.mem_range] at hv
  obtain ⟨k, hk, rfl⟩ := hv
  split
  · exact ⟨rfl, rfl⟩
  · rw [List.getD, List.getElem?_eq_getElem (by rw [zwL_len]; exact hk)]
    exact zwL_own _ (List.getElem_mem _)
theorem belIn_wkL {w : World} {b : Nat} {t : TypeId} {T : Nat → Int} (h : BelIn w b 3296 t zwL.toArray T) : w.heap[b]? = some (.cells (wkL T).toArray t (0, 0)) := by
  obtain ⟨arr, h1, h2, h3, h4⟩ := h
  have : arr = (wkL T).toArray := by
    apply Array.ext_getElem?
    intro k
    have e : (wkL T).toArray[k]? = (wkL T)[k]? := by simp
    rw [e]
    by_cases hk : k < 3296 ∨ 3296 + 384 ≤ k
    · have e2 : zwL.toArray[k]? = zwL[k]? := by simp
      rw [h3 k hk, e2, wkL_other T (by omega)]
    · have := h4 (k - 3296) (by omega)
      rw [show 3296 + (k - 3296) = k by omega] at this
      rw [this]
      have h5 := wkL_bel T (k := k - 3296) (by omega)
      rw [show 3296 + (k - 3296) = k by omega] at h5
      exact h5.symm
  rw [← this]
  exact h1
def rowL (T : Nat → Int) (k : Nat) : List Value := (List.replicate k (wkL T)).flatten
theorem rowL_succ (T : Nat → Int) (k : Nat) : rowL T (k + 1) = rowL T k ++ wkL T := by
  unfold rowL
  rw [List.replicate_succ', List.flatten_append]
  simp
theorem rowL_get (T : Nat → Int) : ∀ (k i o : Nat), i < k → o < 3684 → (rowL T k)[i * 3684 + o]? = (wkL T)[o]? := by
  intro k
  induction k with
  | zero => intro i o h; omega
  | succ k ih =>
    intro i o hi ho
    have hl : (rowL T k).length = k * 3684 := by simp [rowL, wkL_len]
    rw [rowL_succ]
    by_cases e : i < k
    · rw [List.getElem?_append_left (by rw [hl]; omega)]
      exact ih i o e ho
    · have : i = k := by omega
      subst this
      rw [List.getElem?_append_right (by rw [hl]; omega), hl, show i * 3684 + o - i * 3684 = o by omega]
theorem rowL_own (T : Nat → Int) (k : Nat) : ∀ v ∈ rowL T k, Value.ownBlock v = none := by
  intro v hv
  simp only [rowL, List.mem_flatten, List.mem_replicate] at hv
  obtain ⟨l, ⟨_, e⟩, hv⟩ := hv
  rw [e] at hv
  exact (wkL_own T v hv).1
/-- The program's run at its beginning. -/
def pst0 (T : Nat → Int) : PSt := ⟨fun _ _ => 0, fun _ _ => false, fun _ _ => [], fun _ => T, 0, 0⟩
theorem PRow.first {w : World} {S : Nat → Prop} {warr : Array Value} {T : Nat → Int} {L W : Nat} (hL : L ≤ 8) (hs : W * 3684 ≤ warr.size) (ht : warr.toList.take (W * 3684) = rowL T W) : PRow w S warr L W (pst0 T) := by
  have get : ∀ i o, i < W → o < 3684 → warr[i * 3684 + o]? = (wkL T)[o]? := by
    intro i o hi ho
    rw [← rowL_get T W i o hi ho, ← ht, List.getElem?_take_of_lt (by omega)]
    simp
  have nown : ∀ (p b : Nat) (v : Value), p < W * 3684 → warr[p]? = some v → v.ownBlock = some b → False := by
    intro p b v hp hv hb
    have h1 : (rowL T W)[p]? = some v := by rw [← ht, List.getElem?_take_of_lt hp]; simpa using hv
    have := rowL_own T W v (List.mem_of_getElem? h1)
    rw [this] at hb
    cases hb
  refine ⟨hs, fun i n hi hn => ⟨?_, ?_⟩, fun i n hi hn => ?_, fun i hi k hk => ?_, fun i j hi hj => ?_, fun p b v hp hv hb => (nown p b v hp hv hb).elim, fun p q b v u hp _ hv _ hb _ => (nown p b v hp hv hb).elim⟩
  · rw [get i (n * 2) hi (by omega), wkL_other T (by omega)]; exact (zwL_src n (by omega)).1
  · rw [Nat.add_assoc, get i (n * 2 + 1) hi (by omega), wkL_other T (by omega)]; exact (zwL_src n (by omega)).2
  · refine ⟨.slice none 0 0, ?_, World.ownsRow_nil _ _ _ _, by simp [Value.ownBlock]⟩
    rw [Nat.add_assoc, get i (16 + n) hi (by omega), wkL_other T (by omega)]; exact zwL_wait n (by omega)
  · rw [Nat.add_assoc, get i (3296 + k) hi (by omega)]; exact wkL_bel T hk
  · refine ⟨.slice none 0 0, 0, [], ?_, ⟨World.ownsRow_nil _ _ _ _, by simp [Value.ownBlock]⟩, Nat.le_refl _⟩
    rw [Nat.add_assoc, get i (3680 + j) hi (by omega), wkL_other T (by omega)]; exact zwL_way j hj
end Go.Proofs.YtfemleimkbjehaaGreat
namespace Go.Proofs.YtfemleimkbjehaaGreat
set_option linter.unusedVariables false
set_option linter.unusedSimpArgs false
open Go.RowKit

def zrun : Array Value := #[.slice none 0 0, .int .i64 0, .slice none 0 0, .slice none 0 0, .int .i64 0, .slice none 0 0]
set_option maxRecDepth 100000 in
set_option maxHeartbeats 4000000 in
theorem prnew_bad (ns : List Nd) (ga : Option Addr) (gc : Nat) (r wk : Int) (w : World) (hn : NodesAt w ga ns) (hgl : ns.length ≤ maxLen) (hE : newE ns r wk ≠ 0) :
    Calls Tryz.prog 25 #[.agg #[.slice ga ns.length gc, .int .i64 r], .int .i64 wk] w fun e w' => e = .returned (.tuple #[.agg zrun, .int .i64 (newE ns r wk)]) ∧ Bw w w' := by
  have hA := alloc2 w (.cells #[.slice ga ns.length gc, .int .i64 r] 24) (.cells zrun 88)
  obtain ⟨hg0, hr0, hB0⟩ := hA
  have Hck := hide (gcheck_any ns ga gc r _ (hn.below hB0) hgl)
  have hrc := refE_checkE ns r
  cases hR : (checkE ns r != 0) with
  | true =>
    have He : Hid (newE ns r wk = checkE ns r) := hide (by unfold newE; rw [hrc, if_pos hR])
    clear hE hrc
    generalize checkE ns r = ce at *
    go_enter Tryz.func25, Tryz.ntmps25
    go_wp2_with (go_at_call 49; refine (unhide Hck).mono ?_; rintro e w1 ⟨vv, rfl, _, hb1⟩; have hr1 := (Below.block hb1 _ (by simp)).trans hr0; have x0 := cell_of_block (o := 0) hr1 rfl; have x1 := cell_of_block (o := 1) hr1 rfl; have x2 := cell_of_block (o := 2) hr1 rfl; have x3 := cell_of_block (o := 3) hr1 rfl; have x4 := cell_of_block (o := 4) hr1 rfl; have x5 := cell_of_block (o := 5) hr1 rfl; have xf := fun k => frozen_of_block (o := k) hr1; have xl := (Array.getElem?_eq_some_iff.1 hr1).1)
    refine bodyPost_ret (v := .tuple #[.agg zrun, .int .i64 ce]) (by simp [results, Tryz.results25, go_sem, zrun, x0, x1, x2, x3, x4, x5]) rfl ⟨by rw [unhide He], ?_⟩
    exact Bw.setCell (Bw.setCell (Bw.setCell (Bw.setCell (Bw.setCell (Bw.setCell (hB0.trans hb1) (by simp) _) (by simp) _) (by simp) _) (by simp) _) (by simp) _) (by simp) _
  | false =>
    have hc0 : checkE ns r = 0 := by simpa using hR
    rw [hc0] at Hck
    have HE : Hid (newE ns r wk = if decide (wk < 1) || decide (4 < wk) then 3 else 0) := hide (by unfold newE; rw [hrc, hR]; rfl)
    cases h1 : decide (wk < 1) with
    | true =>
      have He : Hid (newE ns r wk = 3) := hide (by rw [unhide HE, h1]; rfl)
      clear hE hrc
      go_enter Tryz.func25, Tryz.ntmps25
      go_wp2_with (go_at_call 49; refine (unhide Hck).mono ?_; rintro e w1 ⟨vv, rfl, _, hb1⟩; have hr1 := (Below.block hb1 _ (by simp)).trans hr0; have x0 := cell_of_block (o := 0) hr1 rfl; have x1 := cell_of_block (o := 1) hr1 rfl; have x2 := cell_of_block (o := 2) hr1 rfl; have x3 := cell_of_block (o := 3) hr1 rfl; have x4 := cell_of_block (o := 4) hr1 rfl; have x5 := cell_of_block (o := 5) hr1 rfl; have xf := fun k => frozen_of_block (o := k) hr1; have xl := (Array.getElem?_eq_some_iff.1 hr1).1)
      refine bodyPost_ret (v := .tuple #[.agg zrun, .int .i64 3]) (by simp [results, Tryz.results25, go_sem, zrun, x0, x1, x2, x3, x4, x5]) rfl ⟨by rw [unhide He], ?_⟩
      exact Bw.setCell (Bw.setCell (Bw.setCell (Bw.setCell (Bw.setCell (Bw.setCell (hB0.trans hb1) (by simp) _) (by simp) _) (by simp) _) (by simp) _) (by simp) _) (by simp) _
    | false =>
      cases h2 : decide (4 < wk) with
      | true =>
        have He : Hid (newE ns r wk = 3) := hide (by rw [unhide HE, h1, h2]; rfl)
        clear hE hrc
        go_enter Tryz.func25, Tryz.ntmps25
        go_wp2_with (go_at_call 49; refine (unhide Hck).mono ?_; rintro e w1 ⟨vv, rfl, _, hb1⟩; have hr1 := (Below.block hb1 _ (by simp)).trans hr0; have x0 := cell_of_block (o := 0) hr1 rfl; have x1 := cell_of_block (o := 1) hr1 rfl; have x2 := cell_of_block (o := 2) hr1 rfl; have x3 := cell_of_block (o := 3) hr1 rfl; have x4 := cell_of_block (o := 4) hr1 rfl; have x5 := cell_of_block (o := 5) hr1 rfl; have xf := fun k => frozen_of_block (o := k) hr1; have xl := (Array.getElem?_eq_some_iff.1 hr1).1)
        refine bodyPost_ret (v := .tuple #[.agg zrun, .int .i64 3]) (by simp [results, Tryz.results25, go_sem, zrun, x0, x1, x2, x3, x4, x5]) rfl ⟨by rw [unhide He], ?_⟩
        exact Bw.setCell (Bw.setCell (Bw.setCell (Bw.setCell (Bw.setCell (Bw.setCell (hB0.trans hb1) (by simp) _) (by simp) _) (by simp) _) (by simp) _) (by simp) _) (by simp) _
      | false => exact absurd (by rw [unhide HE, h1, h2]; rfl) hE
end Go.Proofs.YtfemleimkbjehaaGreat
namespace Go.Proofs.YtfemleimkbjehaaGreat
set_option linter.unusedVariables false
set_option linter.unusedSimpArgs false
open Go.RowKit

theorem fold_get (l : List Value) : ∀ (k : Nat) (b : Array Value) (i : Nat), k + l.length ≤ b.size → ((l.zipIdx k).foldl (fun (cs : Array Value) (p : Value × Nat) => cs.setIfInBounds (0 + p.2) p.1) b)[i]? = if k ≤ i ∧ i < k + l.length then l[i - k]? else b[i]? := by
  induction l with
  | nil => intro k b i _; simp; omega
  | cons x l ih =>
    intro k b i hs
    rw [List.zipIdx_cons, List.foldl_cons, ih (k + 1) _ i (by simp at hs ⊢; omega)]
    simp only [List.length_cons] at hs ⊢
    by_cases h1 : k + 1 ≤ i ∧ i < k + 1 + l.length
    · rw [if_pos h1, if_pos (by omega), show i - k = (i - (k + 1)) + 1 by omega, List.getElem?_cons_succ]
    · rw [if_neg h1]
      by_cases h2 : i = k
      · subst h2
        rw [if_pos (by omega), Nat.zero_add, Array.getElem?_setIfInBounds_self_of_lt (by omega)]
        simp
      · rw [if_neg (by omega), Array.getElem?_setIfInBounds_ne (by omega)]
theorem fold_all (c b : Array Value) (h : b.size = c.size) : c.zipIdx.foldl (fun (cs : Array Value) (p : Value × Nat) => cs.setIfInBounds (0 + p.2) p.1) b = c := by
  rw [← Array.foldl_toList, Array.toList_zipIdx]
  apply Array.ext_getElem?
  intro i
  rw [fold_get c.toList 0 b i (by simp [h])]
  by_cases hi : i < c.size
  · rw [if_pos (by simpa using hi)]; simp
  · rw [if_neg (by simpa using hi), Array.getElem?_eq_none (by omega), Array.getElem?_eq_none (by omega)]
/-- A slice of one element of many cells is built. -/
theorem run_build1 (w : World) (t e : TypeId) (n : Nat) (z : Value) (cells : Array Value) (hu : Tryz.prog.underlying t = some (.slice e)) (hz : ∀ w, (zeroValue e).run Tryz.prog w = .ok z w) (hi : (Tryz.prog.info? e).map (·.size) = some n) (hc : cells.size = n) (hn : 0 < n) (hm : n ≤ 100000) :
    (Instr.buildSlice t 1 #[(0, .agg cells)]).run Tryz.prog w = .ok (.slice (some ⟨w.heap.size, 0, none⟩) 1 1) (w.alloc (.cells cells e)) := by
  cases hq : Tryz.prog.info? e with
  | none => simp [hq] at hi
  | some i =>
    have hs : i.size = n := by simpa [hq] using hi
    have hf : ∀ b : Array Value, b.size = n → Instr.fill (fun k => some (k * n, n)) b [(0, .agg cells)] = some cells := by
      intro b hb
      have := fold_all cells b (by omega)
      simp only [Nat.zero_add] at this
      have hsz : cells.zipIdx.size = n := by simp [hc]
      simp only [hsz] at this
      simp [Instr.fill, Value.cells, hc, hb, this]
    have h24 : ¬ (1 * n > 2 ^ 24) := by have : (2 : Nat) ^ 24 = 16777216 := by decide
                                        omega
    have h0 : ¬ (1 * n = 0) := by omega
    have hfb := hf ((Array.range (1 * n)).map (z.cells[· % z.cells.size]!)) (by simp)
    have hsz : (sizeOf e).run Tryz.prog w = .ok n w := by simp [sizeOf, typeInfo, hq, hs]
    have hno : (newObj (.cells cells e)).run Tryz.prog w = .ok w.heap.size (w.alloc (.cells cells e)) := rfl
    simp only [Instr.buildSlice, Sem.run_bind, run_underlying hu, hsz, Result.andThen_ok, Sem.run_pure, if_neg h24, if_neg h0, hz, hfb, newRow, hno]
theorem buildL {ops : Array Oper} {rest : List Oper} {o : Oper} {a : Act} {Q : Exit → Act → World → Prop} (w : World) (hgd : o.guard = none) (x : Operand) (t e : TypeId) (ho : o.op = .buildSlice t 1 #[(0, x)]) (n : Nat) (z : Value) (cells : Array Value) (hx : a.eval x = .agg cells) (hu : Tryz.prog.underlying t = some (.slice e)) (hz : ∀ w, (zeroValue e).run Tryz.prog w = .ok z w) (hi : (Tryz.prog.info? e).map (·.size) = some n) (hc : cells.size = n) (hn : 0 < n) (hm : n ≤ 100000)
    (h : wpList Tryz.prog ops Q rest (a.put o.dst (.slice (some ⟨w.heap.size, 0, none⟩) 1 1)) (w.alloc (.cells cells e))) : wpList Tryz.prog ops Q (o :: rest) a w := by
  have hr := run_build1 w t e n z cells hu hz hi hc hn hm
  refine wpList_plain hgd fun _ hK => ?_
  unfold Oper.wp execOp
  simp only [ho, Sem.run_bind, Sem.run_pure, Result.andThen_ok, List.map_toArray, List.map_cons, List.map_nil, hx, hr]
  exact hK _ _ h
end Go.Proofs.YtfemleimkbjehaaGreat
