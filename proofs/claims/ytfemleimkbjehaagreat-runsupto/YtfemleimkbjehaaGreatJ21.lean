import Derived.Test.YtfemleimkbjehaaGreatJ20
import Derived.Test.YtfemleimkbjehaaGreatJ5
import Derived.Test.YtfemleimkbjehaaGreatJ1
import Derived.Deep.WholeRow
set_option maxRecDepth 1000000
set_option maxHeartbeats 40000000
set_option linter.unusedVariables false
set_option linter.unusedSimpArgs false
namespace Go.Proofs.YtfemleimkbjehaaGreat
open Go.RowKit
def zwA : List Value := (List.replicate 8 [Value.int .i64 0, Value.bool false]).flatten
theorem zwA_len : zwA.length = 16 := rfl
def zwT : List Value := List.replicate 24 (Value.bool false) ++ (List.replicate 24 (List.replicate 8 (Value.int .i64 0) ++ List.replicate 8 (Value.bool false))).flatten
theorem zwT_len : zwT.length = 408 := by kernel_rfl
def zwH : List Value := zwA ++ (List.replicate 16 (Value.slice none 0 0) ++ (List.replicate 8 zwT).flatten)
theorem zwH_len : zwH.length = 3296 := by simp [zwH, zwA_len, zwT_len]
def zwL : List Value := zwH ++ (List.replicate 384 (Value.int .i64 0) ++ List.replicate 4 (Value.slice none 0 0))
theorem Tryz.infoWorker : (Tryz.prog.info? 147).map (fun i => (i.zero, i.size, i.bytes)) = some (some (.agg zwL.toArray), 3684, 17696) := by kernel_rfl
theorem zwL_len : zwL.length = 3684 := by simp only [zwL, List.length_append, List.length_replicate, zwH_len]
theorem zwL_src : ∀ n, n < 8 → zwL[n * 2]? = some (.int .i64 0) ∧ zwL[n * 2 + 1]? = some (.bool false) := by
  intro n hn
  unfold zwL
  rw [List.getElem?_append_left (by rw [zwH_len]; omega), List.getElem?_append_left (by rw [zwH_len]; omega)]
  unfold zwH
  rw [List.getElem?_append_left (by rw [zwA_len]; omega), List.getElem?_append_left (by rw [zwA_len]; omega)]
  match n, hn with
  | 0, _ | 1, _ | 2, _ | 3, _ | 4, _ | 5, _ | 6, _ | 7, _ => exact ⟨rfl, rfl⟩
theorem zwL_wait : ∀ n, n < 16 → zwL[16 + n]? = some (.slice none 0 0) := by
  intro n hn
  unfold zwL
  rw [List.getElem?_append_left (by rw [zwH_len]; omega)]
  unfold zwH
  rw [List.getElem?_append_right (by rw [zwA_len]; omega), zwA_len, List.getElem?_append_left (by rw [List.length_replicate]; omega), List.getElem?_replicate, if_pos (by omega)]
theorem flat_rep {α : Type} (l : List α) {c : Nat} (hl : l.length = c) : ∀ (k i o : Nat), i < k → o < c → (List.replicate k l).flatten[i * c + o]? = l[o]? := by
  intro k
  induction k with
  | zero => intro i o h; omega
  | succ k ih =>
    intro i o hi ho
    rw [List.replicate_succ', List.flatten_append]
    have hlen : (List.replicate k l).flatten.length = k * c := by simp [hl]
    by_cases e : i < k
    · have hlt : i * c + o < k * c := by
        have := Nat.mul_le_mul_right c (show i + 1 ≤ k from e)
        rw [Nat.add_mul] at this
        omega
      rw [List.getElem?_append_left (by rw [hlen]; exact hlt)]
      exact ih i o e ho
    · have : i = k := by omega
      subst this
      rw [List.getElem?_append_right (by rw [hlen]; omega), hlen, show i * c + o - i * c = o by omega]
      simp
theorem zwL_tal : ∀ n k, n < 8 → k < 408 → zwL[32 + n * 408 + k]? = some (zwT.getD k undef) := by
  intro n k hn hk
  unfold zwL
  rw [List.getElem?_append_left (by rw [zwH_len]; omega)]
  unfold zwH
  rw [List.getElem?_append_right (by rw [zwA_len]; omega), zwA_len, List.getElem?_append_right (by rw [List.length_replicate]; omega), List.length_replicate, show 32 + n * 408 + k - 16 - 16 = n * 408 + k by omega, flat_rep zwT zwT_len 8 n k hn hk, List.getD, List.getElem?_eq_getElem (by rw [zwT_len]; exact hk)]
  rfl
theorem zwL_bel : ∀ k, k < 384 → zwL[3296 + k]? = some (.int .i64 0) := by
  intro n hn
  unfold zwL
  rw [List.getElem?_append_right (by rw [zwH_len]; omega), zwH_len, List.getElem?_append_left (by rw [List.length_replicate]; omega), List.getElem?_replicate, if_pos (by omega)]
theorem zwL_way : ∀ j, j < 4 → zwL[3680 + j]? = some (.slice none 0 0) := by
  intro n hn
  unfold zwL
  rw [List.getElem?_append_right (by rw [zwH_len]; omega), zwH_len, List.getElem?_append_right (by rw [List.length_replicate]; omega), List.length_replicate, List.getElem?_replicate, if_pos (by omega)]
theorem zwL_own : ∀ v ∈ zwL, Value.ownBlock v = none ∧ v.oneCell' = true := by
  intro v hv
  simp only [zwL, zwH, zwT, zwA, List.mem_append, List.mem_flatten, List.mem_replicate] at hv
  rcases hv with (⟨l, ⟨_, rfl⟩, hv⟩ | ⟨_, rfl⟩ | ⟨l, ⟨_, rfl⟩, hv⟩) | ⟨_, rfl⟩ | ⟨_, rfl⟩
  · simp at hv
    rcases hv with rfl | rfl <;> exact ⟨rfl, rfl⟩
  · exact ⟨rfl, rfl⟩
  · simp only [List.mem_append, List.mem_flatten, List.mem_replicate] at hv
    rcases hv with ⟨_, rfl⟩ | ⟨l, ⟨_, rfl⟩, hv⟩
    · exact ⟨rfl, rfl⟩
    · simp only [List.mem_append, List.mem_replicate] at hv
      rcases hv with ⟨_, rfl⟩ | ⟨_, rfl⟩ <;> exact ⟨rfl, rfl⟩
  · exact ⟨rfl, rfl⟩
  · exact ⟨rfl, rfl⟩
def wkL (T : Nat → Int) : List Value := (List.range 3684).map fun k => if 3296 ≤ k ∧ k < 3680 then .int .i64 (T (k - 3296)) else zwL.getD k undef
theorem wkL_len (T : Nat → Int) : (wkL T).length = 3684 := by rw [wkL, List.length_map, List.length_range]
theorem wkL_bel (T : Nat → Int) {k : Nat} (hk : k < 384) : (wkL T)[3296 + k]? = some (.int .i64 (T k)) := by
  unfold wkL
  rw [List.getElem?_map, List.getElem?_range (by omega)]
  simp [show 3296 + k < 3680 by omega]
theorem uZ (T : Nat → Int) {k : Nat} (hk : k < 3296 ∨ 3680 ≤ k) : (wkL T)[k]? = zwL[k]? := by
  unfold wkL
  by_cases h : k < 3684
  · rw [List.getElem?_map, List.getElem?_range h, Option.map_some, if_neg (by omega), List.getD, List.getElem?_eq_getElem (by rw [zwL_len]; exact h)]
    rfl
  · rw [List.getElem?_eq_none (by simp; omega), List.getElem?_eq_none (by rw [zwL_len]; omega)]
theorem wkL_own (T : Nat → Int) : ∀ v ∈ wkL T, Value.ownBlock v = none ∧ v.oneCell' = true := by
  intro v hv
  simp only [wkL, List.mem_map, List.mem_range] at hv
  obtain ⟨k, hk, rfl⟩ := hv
  split
  · exact ⟨rfl, rfl⟩
  · rw [List.getD, List.getElem?_eq_getElem (by rw [zwL_len]; exact hk)]
    exact zwL_own _ (List.getElem_mem _)
theorem belIn_wkL {w : World} {b : Nat} {t : TypeId} {T : Nat → Int} (h : BelIn w b 3296 t zwL.toArray T) : w.heap[b]? = some (.cells (wkL T).toArray t (0, 0)) := by
  obtain ⟨arr, h1, h2, h3, h4⟩ := h
  have : arr = (wkL T).toArray := by
    apply Array.ext_getElem?
    intro k
    have e : (wkL T).toArray[k]? = (wkL T)[k]? := by simp
    rw [e]
    by_cases hk : k < 3296 ∨ 3296 + 384 ≤ k
    · have e2 : zwL.toArray[k]? = zwL[k]? := by simp
      rw [h3 k hk, e2, uZ T (by omega)]
    · have := h4 (k - 3296) (by omega)
      rw [show 3296 + (k - 3296) = k by omega] at this
      rw [this]
      have h5 := wkL_bel T (k := k - 3296) (by omega)
      rw [show 3296 + (k - 3296) = k by omega] at h5
      exact h5.symm
  rw [← this]
  exact h1
def rowL (T : Nat → Int) (k : Nat) : List Value := (List.replicate k (wkL T)).flatten
theorem rowL_succ (T : Nat → Int) (k : Nat) : rowL T (k + 1) = rowL T k ++ wkL T := by
  unfold rowL
  rw [List.replicate_succ', List.flatten_append]
  simp
theorem rowL_get (T : Nat → Int) : ∀ (k i o : Nat), i < k → o < 3684 → (rowL T k)[i * 3684 + o]? = (wkL T)[o]? := by
  intro k
  induction k with
  | zero => intro i o h; omega
  | succ k ih =>
    intro i o hi ho
    have hl : (rowL T k).length = k * 3684 := by simp [rowL, wkL_len]
    rw [rowL_succ]
    by_cases e : i < k
    · rw [List.getElem?_append_left (by rw [hl]; omega)]
      exact ih i o e ho
    · have : i = k := by omega
      subst this
      rw [List.getElem?_append_right (by rw [hl]; omega), hl, show i * 3684 + o - i * 3684 = o by omega]
theorem rowL_own (T : Nat → Int) (k : Nat) : ∀ v ∈ rowL T k, Value.ownBlock v = none := by
  intro v hv
  simp only [rowL, List.mem_flatten, List.mem_replicate] at hv
  obtain ⟨l, ⟨_, e⟩, hv⟩ := hv
  rw [e] at hv
  exact (wkL_own T v hv).1
def pst0 (T : Nat → Int) : PSt := ⟨fun _ _ => 0, fun _ _ => false, fun _ _ => [], fun _ _ => [], fun _ _ k => zwT.getD k undef, fun _ => T, fun _ _ => [], 0, []⟩
theorem PRow.first {w : World} {S : Nat → Prop} {warr : Array Value} {T : Nat → Int} {L W : Nat} (hL : L ≤ 8) (hs : W * 3684 ≤ warr.size) (ht : warr.toList.take (W * 3684) = rowL T W) : PRow w S warr L W (pst0 T) := by
  have get : ∀ i o, i < W → o < 3684 → warr[i * 3684 + o]? = (wkL T)[o]? := by
    intro i o hi ho
    rw [← rowL_get T W i o hi ho, ← ht, List.getElem?_take_of_lt (by omega)]
    simp
  have nown : ∀ (p b : Nat) (v : Value), p < W * 3684 → warr[p]? = some v → v.ownBlock = some b → False := by
    intro p b v hp hv hb
    have h1 : (rowL T W)[p]? = some v := by rw [← ht, List.getElem?_take_of_lt hp]; simpa using hv
    have := rowL_own T W v (List.mem_of_getElem? h1)
    rw [this] at hb
    cases hb
  refine ⟨hs, fun i n hi hn => ⟨?_, ?_⟩, fun i n hi hn => ?_, fun i n hi hn => ?_, fun i n hi hn k hk => ?_, fun i hi k hk => ?_, fun i j hi hj => ?_, fun p b v hp hv hb => (nown p b v hp hv hb).elim, fun p q b v u hp _ hv _ hb _ => (nown p b v hp hv hb).elim⟩
  · rw [get i (n * 2) hi (by omega), uZ T (by omega)]; exact (zwL_src n (by omega)).1
  · rw [Nat.add_assoc, get i (n * 2 + 1) hi (by omega), uZ T (by omega)]; exact (zwL_src n (by omega)).2
  · refine ⟨.slice none 0 0, ?_, World.ownsRow_nil _ _ _ _, by simp [Value.ownBlock]⟩
    rw [Nat.add_assoc, get i (16 + n) hi (by omega), uZ T (by omega)]; exact zwL_wait n (by omega)
  · refine ⟨.slice none 0 0, ?_, World.ownsRow_nil _ _ _ _, by simp [Value.ownBlock]⟩
    rw [Nat.add_assoc, get i (24 + n) hi (by omega), uZ T (by omega), show 24 + n = 16 + (24 - 16 + n) by omega]; exact zwL_wait _ (by omega)
  · rw [Nat.add_assoc, Nat.add_assoc, get i (32 + (n * 408 + k)) hi (by omega), uZ T (by omega), ← Nat.add_assoc]; exact zwL_tal n k (by omega) hk
  · rw [Nat.add_assoc, get i (3296 + k) hi (by omega)]; exact wkL_bel T hk
  · refine ⟨.slice none 0 0, ?_, [], ⟨rfl, .inl ⟨rfl, rfl⟩⟩, by simp [Value.ownBlock], fun k hk => absurd hk (Nat.not_lt_zero k)⟩
    rw [Nat.add_assoc, get i (3680 + j) hi (by omega), uZ T (by omega)]; exact zwL_way j hj
def zrun : Array Value := #[.slice none 0 0, .int .i64 0, .slice none 0 0, .slice none 0 0, .int .i64 0, .slice none 0 0]
theorem prnew_bad (ns : List Nd) (ga : Option Addr) (gc : Nat) (r wk : Int) (w : World) (hn : NodesAt w ga ns) (hgl : ns.length ≤ maxLen) (hE : newE ns r wk ≠ 0) :
    Calls Tryz.prog 25 #[.agg #[.slice ga ns.length gc, .int .i64 r], .int .i64 wk] w fun e w' => e = .returned (.tuple #[.agg zrun, .int .i64 (newE ns r wk)]) ∧ Bw w w' := by
  have hA := alloc2 w (.cells #[.slice ga ns.length gc, .int .i64 r] 24) (.cells zrun 88)
  obtain ⟨hg0, hr0, hB0⟩ := hA
  have Hck := qJ (gcheck_any ns ga gc r _ (hn.below hB0) hgl)
  have hrc := refE_checkE ns r
  cases hR : (zG ns r != 0) with
  | true =>
    have He : Hid (newE ns r wk = zG ns r) := qJ (by unfold newE; rw [hrc, if_pos hR])
    clear hE hrc
    generalize zG ns r = ce at *
    go_enter Tryz.func25, Tryz.ntmps25
    go_wp2_with (go_at_call 49; refine (qK Hck).mono ?_; rintro e w1 ⟨vv, rfl, _, hb1⟩; have hr1 := (Below.block hb1 _ (by simp)).trans hr0; have x0 := qQ (o := 0) hr1 rfl; have x1 := qQ (o := 1) hr1 rfl; have x2 := qQ (o := 2) hr1 rfl; have x3 := qQ (o := 3) hr1 rfl; have x4 := qQ (o := 4) hr1 rfl; have x5 := qQ (o := 5) hr1 rfl; have xf := fun k => qZ (o := k) hr1; have xl := (Array.getElem?_eq_some_iff.1 hr1).1)
    refine bodyPost_ret (v := .tuple #[.agg zrun, .int .i64 ce]) (by simp [results, Tryz.results25, go_sem, zrun, x0, x1, x2, x3, x4, x5]) rfl ⟨by rw [qK He], ?_⟩
    exact Bw.setCell (Bw.setCell (Bw.setCell (Bw.setCell (Bw.setCell (Bw.setCell (hB0.trans hb1) (by simp) _) (by simp) _) (by simp) _) (by simp) _) (by simp) _) (by simp) _
  | false =>
    have hc0 : zG ns r = 0 := by simpa using hR
    rw [hc0] at Hck
    have HE : Hid (newE ns r wk = if decide (wk < 1) || decide (4 < wk) then 3 else 0) := qJ (by unfold newE; rw [hrc, hR]; rfl)
    cases h1 : decide (wk < 1) with
    | true =>
      have He : Hid (newE ns r wk = 3) := qJ (by rw [qK HE, h1]; rfl)
      clear hE hrc
      go_enter Tryz.func25, Tryz.ntmps25
      go_wp2_with (go_at_call 49; refine (qK Hck).mono ?_; rintro e w1 ⟨vv, rfl, _, hb1⟩; have hr1 := (Below.block hb1 _ (by simp)).trans hr0; have x0 := qQ (o := 0) hr1 rfl; have x1 := qQ (o := 1) hr1 rfl; have x2 := qQ (o := 2) hr1 rfl; have x3 := qQ (o := 3) hr1 rfl; have x4 := qQ (o := 4) hr1 rfl; have x5 := qQ (o := 5) hr1 rfl; have xf := fun k => qZ (o := k) hr1; have xl := (Array.getElem?_eq_some_iff.1 hr1).1)
      refine bodyPost_ret (v := .tuple #[.agg zrun, .int .i64 3]) (by simp [results, Tryz.results25, go_sem, zrun, x0, x1, x2, x3, x4, x5]) rfl ⟨by rw [qK He], ?_⟩
      exact Bw.setCell (Bw.setCell (Bw.setCell (Bw.setCell (Bw.setCell (Bw.setCell (hB0.trans hb1) (by simp) _) (by simp) _) (by simp) _) (by simp) _) (by simp) _) (by simp) _
    | false =>
      cases h2 : decide (4 < wk) with
      | true =>
        have He : Hid (newE ns r wk = 3) := qJ (by rw [qK HE, h1, h2]; rfl)
        clear hE hrc
        go_enter Tryz.func25, Tryz.ntmps25
        go_wp2_with (go_at_call 49; refine (qK Hck).mono ?_; rintro e w1 ⟨vv, rfl, _, hb1⟩; have hr1 := (Below.block hb1 _ (by simp)).trans hr0; have x0 := qQ (o := 0) hr1 rfl; have x1 := qQ (o := 1) hr1 rfl; have x2 := qQ (o := 2) hr1 rfl; have x3 := qQ (o := 3) hr1 rfl; have x4 := qQ (o := 4) hr1 rfl; have x5 := qQ (o := 5) hr1 rfl; have xf := fun k => qZ (o := k) hr1; have xl := (Array.getElem?_eq_some_iff.1 hr1).1)
        refine bodyPost_ret (v := .tuple #[.agg zrun, .int .i64 3]) (by simp [results, Tryz.results25, go_sem, zrun, x0, x1, x2, x3, x4, x5]) rfl ⟨by rw [qK He], ?_⟩
        exact Bw.setCell (Bw.setCell (Bw.setCell (Bw.setCell (Bw.setCell (Bw.setCell (hB0.trans hb1) (by simp) _) (by simp) _) (by simp) _) (by simp) _) (by simp) _) (by simp) _
      | false => exact absurd (by rw [qK HE, h1, h2]; rfl) hE
theorem fold_get (l : List Value) : ∀ (k : Nat) (b : Array Value) (i : Nat), k + l.length ≤ b.size → ((l.zipIdx k).foldl (fun (cs : Array Value) (p : Value × Nat) => cs.setIfInBounds (0 + p.2) p.1) b)[i]? = if k ≤ i ∧ i < k + l.length then l[i - k]? else b[i]? := by
  induction l with
  | nil => intro k b i _; simp; omega
  | cons x l ih =>
    intro k b i hs
    rw [List.zipIdx_cons, List.foldl_cons, ih (k + 1) _ i (by simp at hs ⊢; omega)]
    simp only [List.length_cons] at hs ⊢
    by_cases h1 : k + 1 ≤ i ∧ i < k + 1 + l.length
    · rw [if_pos h1, if_pos (by omega), show i - k = (i - (k + 1)) + 1 by omega, List.getElem?_cons_succ]
    · rw [if_neg h1]
      by_cases h2 : i = k
      · subst h2
        rw [if_pos (by omega), Nat.zero_add, Array.getElem?_setIfInBounds_self_of_lt (by omega)]
        simp
      · rw [if_neg (by omega), Array.getElem?_setIfInBounds_ne (by omega)]
theorem fold_all (c b : Array Value) (h : b.size = c.size) : c.zipIdx.foldl (fun (cs : Array Value) (p : Value × Nat) => cs.setIfInBounds (0 + p.2) p.1) b = c := by
  rw [← Array.foldl_toList, Array.toList_zipIdx]
  apply Array.ext_getElem?
  intro i
  rw [fold_get c.toList 0 b i (by simp [h])]
  by_cases hi : i < c.size
  · rw [if_pos (by simpa using hi)]; simp
  · rw [if_neg (by simpa using hi), Array.getElem?_eq_none (by omega), Array.getElem?_eq_none (by omega)]
theorem run_build1 (w : World) (t e : TypeId) (n : Nat) (z : Value) (cells : Array Value) (hu : Tryz.prog.underlying t = some (.slice e)) (hz : ∀ w, (zeroValue e).run Tryz.prog w = .ok z w) (hi : (Tryz.prog.info? e).map (·.size) = some n) (hc : cells.size = n) (hn : 0 < n) (hm : n ≤ 100000) :
    (Instr.buildSlice t 1 #[(0, .agg cells)]).run Tryz.prog w = .ok (.slice (some ⟨w.heap.size, 0, none⟩) 1 1) (w.alloc (.cells cells e)) := by
  cases hq : Tryz.prog.info? e with
  | none => simp [hq] at hi
  | some i =>
    have hs : i.size = n := by simpa [hq] using hi
    have hf : ∀ b : Array Value, b.size = n → Instr.fill (fun k => some (k * n, n)) b [(0, .agg cells)] = some cells := by
      intro b hb
      have := fold_all cells b (by omega)
      simp only [Nat.zero_add] at this
      have hsz : cells.zipIdx.size = n := by simp [hc]
      simp only [hsz] at this
      simp [Instr.fill, Value.cells, hc, hb, this]
    have h24 : ¬ (1 * n > 2 ^ 24) := by have : (2 : Nat) ^ 24 = 16777216 := by decide
                                        omega
    have h0 : ¬ (1 * n = 0) := by omega
    have hfb := hf ((Array.range (1 * n)).map (z.cells[· % z.cells.size]!)) (by simp)
    have hsz : (sizeOf e).run Tryz.prog w = .ok n w := by simp [sizeOf, typeInfo, hq, hs]
    have hno : (newObj (.cells cells e)).run Tryz.prog w = .ok w.heap.size (w.alloc (.cells cells e)) := rfl
    simp only [Instr.buildSlice, Sem.run_bind, run_underlying hu, hsz, Result.andThen_ok, Sem.run_pure, if_neg h24, if_neg h0, hz, hfb, newRow, hno]
theorem buildL {ops : Array Oper} {rest : List Oper} {o : Oper} {a : Act} {Q : Exit → Act → World → Prop} (w : World) (hgd : o.guard = none) (x : Operand) (t e : TypeId) (ho : o.op = .buildSlice t 1 #[(0, x)]) (n : Nat) (z : Value) (cells : Array Value) (hx : a.eval x = .agg cells) (hu : Tryz.prog.underlying t = some (.slice e)) (hz : ∀ w, (zeroValue e).run Tryz.prog w = .ok z w) (hi : (Tryz.prog.info? e).map (·.size) = some n) (hc : cells.size = n) (hn : 0 < n) (hm : n ≤ 100000)
    (h : wpList Tryz.prog ops Q rest (a.put o.dst (.slice (some ⟨w.heap.size, 0, none⟩) 1 1)) (w.alloc (.cells cells e))) : wpList Tryz.prog ops Q (o :: rest) a w := by
  have hr := run_build1 w t e n z cells hu hz hi hc hn hm
  refine wpList_plain hgd fun _ hK => ?_
  unfold Oper.wp execOp
  simp only [ho, Sem.run_bind, Sem.run_pure, Result.andThen_ok, List.map_toArray, List.map_cons, List.map_nil, hx, hr]
  exact hK _ _ h
def begT (ns : List Nd) (W : Nat) : Nat → Int := kU 4 (fun _ => 0) (vF ns W ns.length) (vF ns W ns.length).length
structure NewP (w wr : World) (gb qb rb : Nat) (vn vd vw : Value) (ns : List Nd) (ga : Option Addr) (gc R : Nat) : Prop where
  gr : wr.heap[gb]? = some (.cells #[.slice ga ns.length gc, .int .i64 (R : Int)] 24 (0, 0))
  qr : wr.heap[qb]? = some (.cells zrun 88 (0, 0))
  rt : wr.heap[rb]? = some (.cells #[vn, .int .i64 (R : Int), vd, vw, .int .i64 0, .slice none 0 0] 88 (0, 0))
  nd : wr.ownsRow w.heap.size 46 5 vn ns.length (qL ns)
  ds : TabB w.heap.size wr vd ns.length ns.length (distD ns)
  qbl : w.heap.size ≤ qb
  rbl : w.heap.size ≤ rb
  ne : qb ≠ rb
  bel : Bw w wr
theorem NewP.bw {w a b : World} {gb qb rb gc R : Nat} {vn vd vw : Value} {ns : List Nd} {ga : Option Addr} (h : NewP w a gb qb rb vn vd vw ns ga gc R) (hb : Bw a b) : NewP w b gb qb rb vn vd vw ns ga gc R :=
  ⟨(Below.block hb _ (Array.getElem?_eq_some_iff.1 h.gr).1).trans h.gr, (Below.block hb _ (Array.getElem?_eq_some_iff.1 h.qr).1).trans h.qr, (Below.block hb _ (Array.getElem?_eq_some_iff.1 h.rt).1).trans h.rt, qX h.nd fun g hg => Below.block hb g hg, h.ds.bw hb, h.qbl, h.rbl, h.ne, h.bel.trans hb⟩
theorem NewP.grow {w a b : World} {gb qb rb gc R n sz base : Nat} {vn vd vw u : Value} {ns : List Nd} {ga : Option Addr} {xs : List Value} (h : NewP w a gb qb rb vn vd vw ns ga gc R) (hown : a.ownsRow base 147 sz u n xs) (hg : a.grownBy b u.ownBlock) (hbs : w.heap.size ≤ base) : NewP w b gb qb rb vn vd vw ns ga gc R :=
  ⟨qW hown hg h.gr (.inl (by decide)), qW hown hg h.qr (.inl (by decide)), qW hown hg h.rt (.inl (by decide)), kQ hown hg h.nd (by decide), h.ds.map fun ty _ _ _ ht ho => kQ hown hg ho (by rcases ht with rfl | rfl <;> decide), h.qbl, h.rbl, h.ne, yK hown hg h.bel hbs⟩
theorem NewP.setW {w a : World} {gb qb rb gc R : Nat} {vn vd vw v : Value} {ns : List Nd} {ga : Option Addr} (h : NewP w a gb qb rb vn vd vw ns ga gc R) : NewP w (a.setCell ⟨rb, 3, none⟩ v) gb qb rb vn vd v ns ga gc R := by
  have hgr : gb ≠ rb := fun e => by have h1 := h.gr; rw [e, h.rt] at h1; simp at h1
  exact ⟨(Below.heap_setCell a ⟨rb, 3, none⟩ v gb hgr).trans h.gr, (Below.heap_setCell a ⟨rb, 3, none⟩ v qb h.ne).trans h.qr, (qU h.rt).trans rfl, qN h.rt h.nd (by decide), h.ds.map fun ty _ _ _ ht ho => qN h.rt ho (by rcases ht with rfl | rfl <;> decide), h.qbl, h.rbl, h.ne, Bw.setCell h.bel h.rbl _⟩
theorem set5 {w : World} {q : Nat} {t : TypeId} (h : w.heap[q]? = some (.cells zrun t (0, 0))) (a b c d e f : Value) : ((((((w.setCell ⟨q, 0, none⟩ a).setCell ⟨q, 1, none⟩ b).setCell ⟨q, 2, none⟩ c).setCell ⟨q, 3, none⟩ d).setCell ⟨q, 4, none⟩ e).setCell ⟨q, 5, none⟩ f).heap[q]? = some (.cells #[a, b, c, d, e, f] t (0, 0)) ∧ Chg (fun x => x = q) w ((((((w.setCell ⟨q, 0, none⟩ a).setCell ⟨q, 1, none⟩ b).setCell ⟨q, 2, none⟩ c).setCell ⟨q, 3, none⟩ d).setCell ⟨q, 4, none⟩ e).setCell ⟨q, 5, none⟩ f) := by
  have h1 := qU (k := 0) (v := a) h
  have h2 := qU (k := 1) (v := b) h1
  have h3 := qU (k := 2) (v := c) h2
  have h4 := qU (k := 3) (v := d) h3
  have h5 := qU (k := 4) (v := e) h4
  have h6 := qU (k := 5) (v := f) h5
  refine ⟨h6.trans rfl, ?_⟩
  exact (((((qP _ _ _ _).trans (qP _ _ _ _) (fun _ h => .inl h)).trans (qP _ _ _ _) (fun _ h => .inl h)).trans (qP _ _ _ _) (fun _ h => .inl h)).trans (qP _ _ _ _) (fun _ h => .inl h)).trans (qP _ _ _ _) (fun _ h => .inl h)
theorem vX {w w' : World} {q base n sz : Nat} {ty t : TypeId} {v : Value} {xs : List Value} {arr : Array Value} (h : w.ownsRow base ty sz v n xs) (hq : w.heap[q]? = some (.cells arr t (0, 0))) (hc : Chg (fun x => x = q) w w') (hne : ty ≠ t) : w'.ownsRow base ty sz v n xs := by
  refine kK h fun b hb => ?_
  obtain ⟨cur, hcur⟩ := jZ h hb
  refine hc.block b (Array.getElem?_eq_some_iff.1 hcur).1 (fun e => ?_)
  subst e
  rw [hq] at hcur
  simp only [Option.some.injEq, Obj.cells.injEq] at hcur
  exact hne hcur.2.1.symm
theorem TabB.weak {b c : Nat} {w : World} {v : Value} {n m : Nat} {f : Nat → Nat → Int} (h : TabB b w v n m f) (hc : c ≤ b) : TabB c w v n m f := by
  obtain ⟨vs, h1, h2⟩ := h
  refine ⟨vs, qM h1 hc, fun i hi => ?_⟩
  obtain ⟨u, e, h3⟩ := h2 i hi
  exact ⟨u, e, qM h3 hc⟩
theorem TabB.setR {base : Nat} {w : World} {v : Value} {n m rb k : Nat} {f : Nat → Nat → Int} {arr : Array Value} {fr : Nat × Nat} {u : Value} (h : TabB base w v n m f) (hr : w.heap[rb]? = some (.cells arr 88 fr)) : TabB base (w.setCell ⟨rb, k, none⟩ u) v n m f :=
  h.map fun ty _ _ _ ht h => qN hr h (by rcases ht with rfl | rfl <;> decide)
theorem prnew_ok (ns : List Nd) (ga : Option Addr) (gc : Nat) (R W : Nat) (w : World) (hn : NodesAt w ga ns) (hE : zG ns R = 0) (h1 : 1 ≤ ns.length) (h8 : ns.length ≤ 8) (hW1 : 1 ≤ W) (hW4 : W ≤ 4) (hR4 : R ≤ 4) :
    Calls Tryz.prog 25 #[.agg #[.slice ga ns.length gc, .int .i64 (R : Int)], .int .i64 (W : Int)] w fun e w' => ∃ vn vd wb wc warr, e = .returned (.tuple #[.agg #[vn, .int .i64 (R : Int), vd, .slice (some ⟨wb, 0, none⟩) W wc, .int .i64 0, .slice none 0 0], .int .i64 0]) ∧ w'.ownsRow w.heap.size 46 5 vn ns.length (qL ns) ∧ TabB w.heap.size w' vd ns.length ns.length (distD ns) ∧ w'.heap[wb]? = some (.cells warr 147 (0, 0)) ∧ w.heap.size ≤ wb ∧ W * 3684 ≤ warr.size ∧ warr.toList.take (W * 3684) = rowL (begT ns W) W ∧ Bw w w' := by
  obtain ⟨hg0, hr0, hB0⟩ := alloc2 w (.cells #[.slice ga ns.length gc, .int .i64 (R : Int)] 24) (.cells zrun 88)
  have Hck := qJ (gcheck_any ns ga gc (R : Int) _ (hn.below hB0) (by unfold maxLen; omega))
  rw [hE] at Hck
  have d1 : decide ((W : Int) < 1) = false := by simp; omega
  have d2 : decide (4 < (W : Int)) = false := by simp; omega
  clear hE
  go_enter Tryz.func25, Tryz.ntmps25
  go_wp2_with (first | (go_at_call 49; refine (qK Hck).mono ?_; rintro e w1 ⟨vv, rfl, _, hb1⟩; have hq1 := (Below.block hb1 _ (by simp)).trans hr0; have hg1 := (Below.block hb1 _ (by simp; omega)).trans hg0; have y0 := qQ (o := 0) hg1 rfl; have y1 := qQ (o := 1) hg1 rfl; have yl := (Array.getElem?_eq_some_iff.1 hg1).1; obtain ⟨w2, hw2⟩ : ∃ w2, w1.alloc (.cells #[.slice none 0 0, .int .i64 (R : Int), .slice none 0 0, .slice none 0 0, .int .i64 0, .slice none 0 0] 88) = w2 := ⟨_, rfl⟩; have hb2 : Bw w1 w2 := (by rw [← hw2]; exact (by repeat first|exact br _|assumption|apply bd|apply bn|apply ba|refine bt ?_ (by assumption))); have hr2 : w2.heap[w1.heap.size]? = some (.cells #[.slice none 0 0, .int .i64 (R : Int), .slice none 0 0, .slice none 0 0, .int .i64 0, .slice none 0 0] 88 (0, 0)) := (by rw [← hw2]; exact heap_alloc_new w1 _); have hc2 : CellsAt w2 ga ns.length (qL ns) := nodes_row (hn.below (hB0.trans (hb1.trans hb2))); have z0 := qQ (o := 0) hr2 rfl; have zl := (Array.getElem?_eq_some_iff.1 hr2).1; have hg2 := (Below.block hb2 _ yl).trans hg1; have y20 := qQ (o := 0) hg2 rfl; have y2l := (Array.getElem?_eq_some_iff.1 hg2).1) | (at_builtin; refine appG w2 rfl _ _ _ 46 rfl _ 5 40 Tryz.infoNode Tryz.underlying22 rfl (by decide) w.heap.size (.slice none 0 0) 0 [] rfl (World.ownsRow_nil _ _ _ _) _ ns.length _ (qL ns) rfl (zT ns) hc2 (nodeCells_one ns) (by omega) (by omega) (Bw.size (hB0.trans (hb1.trans hb2))) ?_; intro v0 w3 hown3 hgr3 hl3; have hb3 := bw_grown hgr3; rw [Nat.zero_add, List.nil_append] at hown3; obtain ⟨na, nc, hv0⟩ : ∃ na nc, v0 = .slice na ns.length nc := ⟨_, _, qV hown3⟩; subst hv0; have hr3 := (Below.block hb3 _ zl).trans hr2; have z30 := qQ (o := 0) hr3 rfl; have z3f := qZ (o := 0) hr3; have z3l := (Array.getElem?_eq_some_iff.1 hr3).1; have hg3 := (Below.block hb3 _ y2l).trans hg2; have y30 := qQ (o := 0) hg3 rfl; have y31 := qQ (o := 1) hg3 rfl; have y3l := (Array.getElem?_eq_some_iff.1 hg3).1; have hgr' : ¬ w.heap.size = w1.heap.size := (by omega)))
  obtain ⟨rb, hrb⟩ : ∃ rb, w1.heap.size = rb := ⟨_, rfl⟩
  have hz1 : w.heap.size + 1 + 1 ≤ w1.heap.size := by have := hb1.size; simpa using this
  have hq3 := (Below.block (hb2.trans hb3) _ (Array.getElem?_eq_some_iff.1 hq1).1).trans hq1
  have hB3 : Bw w w3 := hB0.trans (hb1.trans (hb2.trans hb3))
  rw [hrb] at hr3 hz1
  rw [hrb]
  obtain ⟨qb, hqb⟩ : ∃ qb, w.heap.size + 1 = qb := ⟨_, rfl⟩
  rw [hqb] at hq3 hz1
  rw [hqb]
  obtain ⟨gb, hgb⟩ : ∃ gb, w.heap.size = gb := ⟨_, rfl⟩
  have hqg : gb + 1 = qb := by omega
  have hwg : w.heap.size = gb := hgb
  rw [hgb] at hg3
  rw [hgb]
  have hgr : gb ≠ rb := by omega
  have hqr : qb ≠ rb := by omega
  have hrl : w.heap.size ≤ rb := by omega
  have hql : w.heap.size ≤ qb := by omega
  obtain ⟨w4, hw4⟩ : ∃ w4, w3.setCell ⟨rb, 0, none⟩ (.slice na ns.length nc) = w4 := ⟨_, rfl⟩
  obtain ⟨hg4, hq4, hr4, hn4, hB4⟩ : w4.heap[gb]? = some (.cells #[.slice ga ns.length gc, .int .i64 (R : Int)] 24 (0, 0)) ∧ w4.heap[qb]? = some (.cells zrun 88 (0, 0)) ∧ w4.heap[rb]? = some (.cells #[.slice na ns.length nc, .int .i64 (R : Int), .slice none 0 0, .slice none 0 0, .int .i64 0, .slice none 0 0] 88 (0, 0)) ∧ w4.ownsRow w.heap.size 46 5 (.slice na ns.length nc) ns.length (qL ns) ∧ Bw w w4 := by
    rw [← hw4]
    exact ⟨(Below.heap_setCell w3 ⟨rb, 0, none⟩ _ gb hgr).trans hg3, (Below.heap_setCell w3 ⟨rb, 0, none⟩ _ qb hqr).trans hq3, (qU hr3).trans rfl, qN hr3 hown3 (by decide), Bw.setCell hB3 hrl _⟩
  rw [hw4]
  clear hw4 hw2 hb1 hb2 hb3 hq1 hg1 hg2 hg3 hq3 hr2 hr3 hc2 hown3 hgr3 hl3 hr0 hg0 hB0 Hck y0 y1 yl z0 zl y20 y2l z30 z3f z3l y30 y31 y3l hgr' hrb hqb hgb hB3
  refine (pdistOf_any ns ga gc (R : Int) w4 (hn.below hB4) h1 h8).mono ?_
  rintro e5 w5 ⟨vd, rfl, hT5, hb5⟩
  obtain ⟨da, dc, hde⟩ : ∃ da dc, vd = .slice da ns.length dc := by
    obtain ⟨vs, h, _⟩ := hT5
    exact ⟨_, _, qV h⟩
  subst hde
  have hr5 := (Below.block hb5 _ (Array.getElem?_eq_some_iff.1 hr4).1).trans hr4
  have hg5 := (Below.block hb5 _ (Array.getElem?_eq_some_iff.1 hg4).1).trans hg4
  have hq5 := (Below.block hb5 _ (Array.getElem?_eq_some_iff.1 hq4).1).trans hq4
  have k2 := qQ (o := 2) hr5 rfl
  have k2f := qZ (o := 2) hr5
  have k2l := (Array.getElem?_eq_some_iff.1 hr5).1
  have g0 := qQ (o := 0) hg5 rfl
  have g1 := qQ (o := 1) hg5 rfl
  have gl := (Array.getElem?_eq_some_iff.1 hg5).1
  have hP6 : NewP w (w5.setCell ⟨rb, 2, none⟩ (.slice da ns.length dc)) gb qb rb (.slice na ns.length nc) (.slice da ns.length dc) (.slice none 0 0) ns ga gc R :=
    ⟨(Below.heap_setCell w5 ⟨rb, 2, none⟩ _ gb hgr).trans hg5, (Below.heap_setCell w5 ⟨rb, 2, none⟩ _ qb hqr).trans hq5, (qU hr5).trans rfl, qN hr5 (qX hn4 fun g hg => Below.block hb5 g hg) (by decide), (hT5.weak hB4.size).setR hr5, hql, hrl, hqr, Bw.setCell (hB4.trans hb5) hrl _⟩
  have HP6 := qJ hP6
  clear hP6 hr5 hg5 hq5 hr4 hg4 hq4 hn4 hT5
  go_wp2_with fail
  obtain ⟨w6, hw6⟩ : ∃ w6, w5.setCell ⟨rb, 2, none⟩ (.slice da ns.length dc) = w6 := ⟨_, rfl⟩
  rw [hw6] at HP6
  rw [hw6]
  clear hw6 k2 k2f k2l g0 g1 gl
  refine (pbeg_any ns ga gc W (R : Int) w6 (hn.below (qK HP6).bel) h8 hW4).mono ?_
  rintro e7 w7 ⟨vf, rfl, hof, hb7⟩
  obtain ⟨fa, fc, hfe⟩ : ∃ fa fc, vf = .slice fa (vF ns W ns.length).length fc := ⟨_, _, qV hof⟩
  subst hfe
  go_wp2_with fail
  obtain ⟨w8, hw8⟩ : ∃ w8, w7.alloc (.cells #[.slice fa (vF ns W ns.length).length fc] 121) = w8 := ⟨_, rfl⟩
  have hb8 : Bw w7 w8 := by rw [← hw8]; exact (by repeat first|exact br _|assumption|apply bd|apply bn|apply ba|refine bt ?_ (by assumption))
  have hf8 : w8.heap[w7.heap.size]? = some (.cells #[.slice fa (vF ns W ns.length).length fc] 121 (0, 0)) := by rw [← hw8]; exact heap_alloc_new w7 _
  rw [hw8]
  have hP8 := (qK HP6).bw (hb7.trans hb8)
  have hof8 : OwnP w w8 (.slice fa (vF ns W ns.length).length fc) (vF ns W ns.length) := (hof.bw hb8).weaken (qK HP6).bel
  obtain ⟨fb, hfb⟩ : ∃ fb, w7.heap.size = fb := ⟨_, rfl⟩
  rw [hfb] at hf8
  rw [hfb]
  clear hw8 hfb hof hb7 hb8 HP6
  have hbl := begL_len ns W ns.length
  have Hbok := qJ (fun j (hj : j < (vF ns W ns.length).length) => begL_ok (W := W) h8 ns.length (Nat.le_refl _) _ (xH hj))
  have HT : Hid (begT ns W = kU 4 (fun _ => 0) (vF ns W ns.length) (vF ns W ns.length).length) := qJ rfl
  generalize vF ns W ns.length = bl at *
  obtain ⟨T, hTT⟩ : ∃ T, begT ns W = T := ⟨_, rfl⟩
  rw [hTT] at HT
  have HTT := qJ hTT
  clear hTT
  obtain ⟨iw, hiw, hz0, hzs, hzb⟩ := info_parts Tryz.infoWorker
  have hz : ∀ w, (zeroValue 147).run Tryz.prog w = .ok (.agg zwL.toArray) w := (zero_of_info (P := Tryz.prog) (t := 147) (v := .agg zwL.toArray) (n := 3684) (by rw [hiw]; simp [hz0, hzs])).1
  have Hsz : Hid ((Tryz.prog.info? 147).map (·.size) = some 3684) := qJ (by rw [hiw]; simp [hzs])
  have HzA : Hid ((Value.agg zwL.toArray).cells.size = 3684) := qJ (by simp [Value.cells, zwL_len])
  clear hiw hz0 hzs hzb
  go_loopw [10] (fun idx wr => ∃ (k : Nat) (vw : Value), k ≤ W ∧ idx = .int .i64 k ∧ NewP w wr gb qb rb (.slice na ns.length nc) (.slice da ns.length dc) vw ns ga gc R ∧ wr.heap[fb]? = some (.cells #[.slice fa bl.length fc] 121 (0, 0)) ∧ OwnP w wr (.slice fa bl.length fc) bl ∧ wr.ownsRow w.heap.size 147 3684 vw k (rowL T k)) (fun idx _ => W - (intOf idx).toNat)
  case atStart => exact ⟨0, _, Nat.zero_le _, rfl, hP8, hf8, hof8, World.ownsRow_nil _ _ _ _⟩
  case round =>
    clear hP8 hf8 hof8
    obtain ⟨k, vw, hk, rfl, hP, hfx, hof, how⟩ := hrel
    rename World => wr
    obtain ⟨wa', wc', hvw⟩ : ∃ a c, vw = .slice a k c := ⟨_, _, qV how⟩
    subst hvw
    have HP := qJ hP
    have Hfx := qJ hfx
    have Hof := qJ hof
    have How := qJ how
    have r3 := qQ (o := 3) hP.rt rfl
    have rl := (Array.getElem?_eq_some_iff.1 hP.rt).1
    have f0 := qQ (o := 0) hfx rfl
    have fl := (Array.getElem?_eq_some_iff.1 hfx).1
    by_cases hlt : k < W
    · have hl1 : decide ((k : Int) < (W : Int)) = true := by simp; omega
      clear hP hfx hof how
      go_wp2_with fail
      have hA := heap_alloc_new wr (.cells zwL.toArray 147)
      refine (pbelieve_any wr.heap.size 3296 147 zwL.toArray (fun _ => 0) bl fa fc _ (ptsAt_own ((qK Hof).bw ((Bw.refl wr).alloc _))) (qK Hbok) (by omega) (fun g off e => ?_) ⟨_, hA, rfl, fun _ _ => rfl, fun k hk => by simpa using zwL_bel k hk⟩).mono ?_
      · intro e2
        subst e2
        have h2 := (World.ownsRow.lt (qK Hof) wr.heap.size (by rw [e]; rfl)).2
        omega
      rintro eB wB ⟨rfl, hbB, hCB⟩
      have hBB : Bw wr wB := Chg.toBw (S := fun b => b = wr.heap.size) ((Bw.refl wr).alloc _) hCB (fun x hx => by rw [hx]; exact Nat.le_refl _)
      rw [← qK HT] at hbB
      have hoB := belIn_wkL hbB
      have HPB := qJ ((qK HP).bw hBB)
      have HoB := qJ hoB
      have rB3 := qQ (o := 3) (qK HPB).rt rfl
      have rBl := (Array.getElem?_eq_some_iff.1 (qK HPB).rt).1
      have Hrange : Hid (wB.rangeAt wr.heap.size 0 (wkL T)) := qJ (fun j v hj => by rw [Nat.zero_add]; exact qQ hoB (by simpa using hj))
      have Hsize : Hid ((Tryz.prog.info? 147).map (·.size) = some (wkL T).length) := qJ (by rw [qK Hsz, wkL_len])
      clear hbB hCB hoB hA r3 rl f0 fl
      have Hone := qJ (fun u hu => (wkL_own T u hu).2)
      have Hwl := qJ (show (wkL T).toArray.size = 3684 from by simp [wkL_len])
      have Hwl2 := qJ (wkL_len T)
      go_wp2_with (first | (refine wpList_load_mid rfl 147 _ rfl wr.heap.size 0 rfl (wkL T) _ (qK Hrange) Tryz.underlying147 rfl (qK Hsize) ?_) | (refine buildL _ rfl _ _ 147 rfl 3684 _ (wkL T).toArray rfl Tryz.underlying86 hz (qK Hsz) (qK Hwl) (by omega) (by omega) ?_) | (at_builtin; refine appG _ rfl _ _ _ 147 rfl _ 3684 17696 Tryz.infoWorker Tryz.underlying86 (qK HzA) (by decide) w.heap.size (.slice wa' k wc') k (rowL T k) rfl (qX (qK How) fun g hg => Below.block (show Bw wr _ from (by repeat first|exact br _|assumption|apply bd|apply bn|apply ba|refine bt ?_ (by assumption))) g hg) _ 1 _ (wkL T) rfl (by rw [qK Hwl2]) (fun _ => ⟨_, _, rfl, fun j u hj => by rw [Nat.zero_add]; exact qQ (heap_alloc_new _ _) (by simpa using hj)⟩) (qK Hone) (by omega) (by omega) (Nat.le_trans (Bw.size (qK HP).bel) (Bw.size (show Bw wr _ from (by repeat first|exact br _|assumption|apply bd|apply bn|apply ba|refine bt ?_ (by assumption))))) ?_; intro vE wE hoE hgE hlE; obtain ⟨ea, ec, hee⟩ : ∃ ea ec, vE = .slice ea (k + 1) ec := ⟨_, _, qV hoE⟩; subst hee; have HPE := qJ (((qK HPB).bw ((Bw.refl wB).alloc (.cells (wkL T).toArray 147))).grow (qX (qK How) fun g hg => Below.block (show Bw wr _ from (by repeat first|exact br _|assumption|apply bd|apply bn|apply ba|refine bt ?_ (by assumption))) g hg) hgE (Nat.le_refl _)); have q3 := qQ (o := 3) (qK HPE).rt rfl; have q3f := qZ (o := 3) (qK HPE).rt; have q3l := (Array.getElem?_eq_some_iff.1 (qK HPE).rt).1))
      go_roundw
      case rel =>
        obtain ⟨wX, hwX, hBX⟩ : ∃ wX, wX = wB.alloc (.cells (wkL T).toArray 147) ∧ Bw wr wX := ⟨_, rfl, (by repeat first|exact br _|assumption|apply bd|apply bn|apply ba|refine bt ?_ (by assumption))⟩
        rw [← hwX] at hgE
        have howX := qX (qK How) fun g hg => Below.block hBX g hg
        refine ⟨k + 1, _, by omega, by go_num, (qK HPE).setW, ?_, ?_, ?_⟩
        · have h1 := qW howX hgE ((Below.block hBX _ (Array.getElem?_eq_some_iff.1 (qK Hfx)).1).trans (qK Hfx)) (.inl (by decide))
          exact (Below.heap_setCell wE ⟨rb, 3, none⟩ _ fb (fun e => by simp only at e; rw [e, (qK HPE).rt] at h1; simp at h1)).trans h1
        · exact qN (qK HPE).rt (kQ howX hgE ((qK Hof).bw hBX) (by decide)) (by decide)
        · rw [rowL_succ]
          exact qN (qK HPE).rt hoE (by decide)
      case measure => simp [intOf]; omega
    · have hkW : k = W := by omega
      have hl1 : decide ((k : Int) < (W : Int)) = false := by simp; omega
      have HkW := qJ hkW
      have How := qJ how
      have HP := qJ hP
      have hr0 := qQ (o := 0) hP.rt rfl
      have hr1 := qQ (o := 1) hP.rt rfl
      have hr2 := qQ (o := 2) hP.rt rfl
      have hr4 := qQ (o := 4) hP.rt rfl
      have hr5 := qQ (o := 5) hP.rt rfl
      have hx0 := qQ (o := 0) hP.qr rfl
      have hx1 := qQ (o := 1) hP.qr rfl
      have hx2 := qQ (o := 2) hP.qr rfl
      have hx3 := qQ (o := 3) hP.qr rfl
      have hx4 := qQ (o := 4) hP.qr rfl
      have hx5 := qQ (o := 5) hP.qr rfl
      have hxf := fun k => qZ (o := k) hP.qr
      have hxl := (Array.getElem?_eq_some_iff.1 hP.qr).1
      have hne := hP.ne
      clear hP hfx hof how hkW
      go_wp2_with fail
      have hkW := qK HkW
      subst hkW
      obtain ⟨s1, s2⟩ := set5 (qK HP).qr (.slice na ns.length nc) (.int .i64 (R : Int)) (.slice da ns.length dc) (.slice wa' k wc') (.int .i64 0) (.slice none 0 0)
      obtain ⟨wF, hwF⟩ : ∃ wF, ((((((wr.setCell ⟨qb, 0, none⟩ (.slice na ns.length nc)).setCell ⟨qb, 1, none⟩ (.int .i64 (R : Int))).setCell ⟨qb, 2, none⟩ (.slice da ns.length dc)).setCell ⟨qb, 3, none⟩ (.slice wa' k wc')).setCell ⟨qb, 4, none⟩ (.int .i64 0)).setCell ⟨qb, 5, none⟩ (.slice none 0 0)) = wF := ⟨_, rfl⟩
      rw [hwF] at s1 s2
      rw [hwF]
      clear hwF
      have c0 := qQ (o := 0) s1 rfl
      have c1 := qQ (o := 1) s1 rfl
      have c2 := qQ (o := 2) s1 rfl
      have c3 := qQ (o := 3) s1 rfl
      have c4 := qQ (o := 4) s1 rfl
      have c5 := qQ (o := 5) s1 rfl
      refine bodyPost_ret (v := .tuple #[.agg #[.slice na ns.length nc, .int .i64 (R : Int), .slice da ns.length dc, .slice wa' k wc', .int .i64 0, .slice none 0 0], .int .i64 0]) (by simp [results, Tryz.results25, go_sem, c0, c1, c2, c3, c4, c5]) rfl ?_
      have hoF := vX (qK How) (qK HP).qr s2 (by decide)
      obtain ⟨_, h0 | ⟨g, cap, cur, hv, hgb, hgc, hcl, _, hcs, hct⟩⟩ := id hoF
      · omega
      · simp only [Value.slice.injEq] at hv
        obtain ⟨rfl, _, rfl⟩ := hv
        exact ⟨_, _, g, wc', cur, rfl, vX (qK HP).nd (qK HP).qr s2 (by decide), (qK HP).ds.map fun ty _ _ _ ht ho => vX ho (qK HP).qr s2 (by rcases ht with rfl | rfl <;> decide), hgc, hgb, by rw [hcs]; exact Nat.mul_le_mul_right _ hcl, by rw [qK HTT]; exact hct, Chg.toBw (qK HP).bel s2 (fun x hx => hx ▸ (qK HP).qbl)⟩
end Go.Proofs.YtfemleimkbjehaaGreat
