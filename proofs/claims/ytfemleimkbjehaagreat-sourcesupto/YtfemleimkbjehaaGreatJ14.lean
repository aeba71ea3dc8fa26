import Derived.Test.YtfemleimkbjehaaGreatJ13
namespace Go.Proofs.YtfemleimkbjehaaGreat
set_option linter.unusedVariables false
set_option linter.unusedSimpArgs false
open Go.RowKit

def Gv.cells (x : Gv) : List Value := [.int .i64 x.node, .int .i64 x.epoch, .int .i64 x.value]
def gvCells (gv : List Gv) : List Value := gv.flatMap Gv.cells
theorem gvCells_len (gv : List Gv) : (gvCells gv).length = gv.length * 3 := by
  induction gv with
  | nil => rfl
  | cons x t ih => simp only [gvCells, List.flatMap_cons, List.length_append, List.length_cons] at *; rw [ih]; simp [Gv.cells]; omega
theorem gvCells_get (gv : List Gv) : ∀ j, j < gv.length → ∀ f, f < 3 → (gvCells gv)[j * 3 + f]? = (Gv.cells (gvn gv j))[f]? := by
  induction gv with
  | nil => intro j hj; simp at hj
  | cons x t ih =>
    intro j hj f hf
    cases j with
    | zero =>
      simp only [gvCells, List.flatMap_cons, Nat.zero_mul, Nat.zero_add]
      rw [List.getElem?_append_left (by simp [Gv.cells]; omega)]
      rfl
    | succ j =>
      simp only [gvCells, List.flatMap_cons]
      rw [List.getElem?_append_right (by simp [Gv.cells]; omega)]
      have := ih j (by simpa using hj) f hf
      simp only [gvCells] at this
      rw [show (j + 1) * 3 + f - (Gv.cells x).length = j * 3 + f by simp [Gv.cells]; omega, this]
      rfl
theorem gvCells_one (gv : List Gv) : ∀ u ∈ gvCells gv, u.oneCell' = true := by
  intro u hu
  simp only [gvCells, List.mem_flatMap, Gv.cells] at hu
  obtain ⟨x, _, hu⟩ := hu
  simp at hu
  rcases hu with rfl | rfl | rfl <;> rfl
theorem gvCells_src {w : World} {gv : List Gv} {b off : Nat} (hc : ∀ j, j < gv.length →
    w.cell? ⟨b, off + j * 3, none⟩ = some (.int .i64 (gvn gv j).node) ∧ w.cell? ⟨b, off + j * 3 + 1, none⟩ = some (.int .i64 (gvn gv j).epoch) ∧ w.cell? ⟨b, off + j * 3 + 2, none⟩ = some (.int .i64 (gvn gv j).value)) :
    ∀ p u, (gvCells gv)[p]? = some u → w.cell? ((⟨b, off, none⟩ : Addr).add p) = some u := by
  intro p u hp
  have hlt : p < gv.length * 3 := by
    by_cases h : p < gv.length * 3
    · exact h
    · rw [List.getElem?_eq_none (by rw [gvCells_len]; omega)] at hp; cases hp
  obtain ⟨j, f, hf, rfl⟩ : ∃ j f, f < 3 ∧ p = j * 3 + f := ⟨p / 3, p % 3, Nat.mod_lt _ (by omega), by omega⟩
  have hj : j < gv.length := by omega
  rw [gvCells_get gv j hj f hf] at hp
  obtain ⟨c0, c1, c2⟩ := hc j hj
  refine add_cell ?_
  rw [← Nat.add_assoc]
  match f, hf with
  | 0, _ => simp [Gv.cells] at hp; subst hp; exact c0
  | 1, _ => simp [Gv.cells] at hp; subst hp; exact c1
  | 2, _ => simp [Gv.cells] at hp; subst hp; exact c2
theorem gvAt_cells {w : World} {g : Nat} {gv : List Gv} (hg : g < w.heap.size) (h : ∀ p u, (gvCells gv)[p]? = some u → w.cell? ⟨g, p, none⟩ = some u) : GvAt w (some ⟨g, 0, none⟩) gv := by
  intro i hi
  refine ⟨g, 0, rfl, hg, fun j hj => ⟨?_, ?_, ?_⟩⟩
  · have := gvCells_get gv j hj 0 (by omega); rw [Nat.add_zero] at this; exact h _ _ (by rw [Nat.zero_add, this]; rfl)
  · exact h _ _ (by rw [Nat.zero_add, gvCells_get gv j hj 1 (by omega)]; rfl)
  · exact h _ _ (by rw [Nat.zero_add, gvCells_get gv j hj 2 (by omega)]; rfl)
theorem gv_cells {w : World} {g : Nat} {x : Gv} (h0 : w.cell? ⟨g, 0, none⟩ = some (.int .i64 x.node)) (h1 : w.cell? ⟨g, 1, none⟩ = some (.int .i64 x.epoch)) (h2 : w.cell? ⟨g, 2, none⟩ = some (.int .i64 x.value)) : ∀ j u, x.cells[j]? = some u → w.cell? ⟨g, j, none⟩ = some u := by
  intro j u hj
  unfold Gv.cells at hj
  match j, hj with
  | 0, hj => simp at hj; subst hj; exact h0
  | 1, hj => simp at hj; subst hj; exact h1
  | 2, hj => simp at hj; subst hj; exact h2
theorem gv_one (x : Gv) : ∀ u ∈ x.cells, u.oneCell' = true := fun u hu => gvCells_one [x] u (by simpa [gvCells] using hu)
theorem gvCells_snoc (gv : List Gv) (x : Gv) : gvCells (gv ++ [x]) = gvCells gv ++ x.cells := by simp [gvCells]
/-- An owned list of triples of numbers. -/
def OwnG (ty : TypeId) (W w : World) (v : Value) (xs : List Gv) : Prop := w.ownsRow W.heap.size ty 3 v xs.length (gvCells xs)
theorem OwnG.nil (ty : TypeId) (W w : World) : OwnG ty W w (.slice none 0 0) [] := World.ownsRow_nil _ _ _ _
theorem OwnG.bw {ty : TypeId} {W a b : World} {v : Value} {xs : List Gv} (h : OwnG ty W a v xs) (hb : Bw a b) : OwnG ty W b v xs := ownsRow_bw h fun g hg => Below.block hb g hg
theorem OwnG.weaken {ty : TypeId} {W V a : World} {v : Value} {xs : List Gv} (h : OwnG ty W a v xs) (hb : Bw V W) : OwnG ty V a v xs := ownsRow_weaken h hb.size
theorem OwnG.snoc {ty : TypeId} {W w : World} {v : Value} {xs : List Gv} {x : Gv} (h : w.ownsRow W.heap.size ty 3 v (xs.length + 1) (gvCells xs ++ x.cells)) : OwnG ty W w v (xs ++ [x]) := by
  unfold OwnG; rw [gvCells_snoc, List.length_append]; exact h
end Go.Proofs.YtfemleimkbjehaaGreat
namespace Go.Proofs.YtfemleimkbjehaaGreat
set_option linter.unusedVariables false
set_option linter.unusedSimpArgs false
open Go.RowKit

/-- 'append(v, x)' of one element of any type, as a step of a region that draws its order. -/
theorem stepT {ops : Array Oper} {o : Oper} {a : Act} {w : World} {K : Act → World → Prop} {Q : Exit → Act → World → Prop} {E : Prop} (hgd : o.guard = none) (s y : Operand) (t ty : TypeId)
    (ho : o.op = .call { callee := .builtin .append, args := #[s, y], argTypes := #[t, t] }) (z : Value) (size bytes : Nat) (hinf : (Tryz.prog.info? ty).map (fun i => (i.zero, i.size, i.bytes)) = some (some z, size, bytes)) (hund : Tryz.prog.underlying t = some (.slice ty)) (hzs : z.cells.size = size) (hsz : 0 < size)
    (base : Nat) (v : Value) (n : Nat) (xs : List Value) (hs : a.eval s = v) (hown : w.ownsRow base ty size v n xs)
    (g c : Nat) (news : List Value) (hx : a.eval y = .slice (some ⟨g, 0, none⟩) 1 c) (hnl : news.length = size) (hc : ∀ j u, news[j]? = some u → w.cell? ⟨g, j, none⟩ = some u) (h1 : ∀ u ∈ news, u.oneCell' = true) (hl1 : n + 1 ≤ 1000000000) (hb : bytes ≤ 1000) (hB : base ≤ w.heap.size)
    (h : ∀ v' w', w'.ownsRow base ty size v' (n + 1) (xs ++ news) → w.grownBy w' v.ownBlock → K (a.put o.dst v') w') :
    if Region.wanted o (yielded ops a.tmps) = true then Oper.wp Tryz.prog o a w K Q else E := by
  obtain ⟨v', w', hr, h2, h3⟩ := run_appT w t ty o.type z size bytes hinf hund hzs hsz base v n xs hown g c news hnl hc h1 hl1 hb hB
  have hw : Region.wanted o (yielded ops a.tmps) = true := by simp [Region.wanted, hgd]
  rw [if_pos hw]
  unfold Oper.wp
  simp only [execOp, ho, resolve, invoke, builtin, Sem.run_bind, Sem.run_pure, Result.andThen_ok, List.map_toArray, List.map_cons, List.map_nil, hs, hx, hr]
  exact h v' w' h2 h3

def placeB (len W : Nat) (w n : Int) : Bool := (decide (0 ≤ w) && decide (w < W)) && (decide (0 ≤ n) && decide (n < len))
set_option maxRecDepth 100000 in
set_option maxHeartbeats 2000000 in
theorem rplace_any {rb : Nat} {x : RV} {ns : List Nd} {R W : Nat} {D : Nat → Nat → Int} {st : RSt} (wk n : Int) (w : World) (hR : RRead w rb x ns R W D st) :
    Calls Tryz.prog 63 #[.pointer (some ⟨rb, 0, none⟩), .int .i64 wk, .int .i64 n] w fun e w' => e = .returned (.bool (placeB ns.length W wk n)) ∧ w' = w := by
  have c0 := hR.c0
  have c2 := hR.c2
  have hlt0 := hR.lt
  clear hR
  have Hp : Hid (placeB ns.length W wk n = ((decide (0 ≤ wk) && decide (wk < W)) && (decide (0 ≤ n) && decide (n < ns.length)))) := hide rfl
  cases h1 : decide (0 ≤ wk) with
  | false =>
    have Hs : Hid (placeB ns.length W wk n = false) := hide (by rw [unhide Hp, h1]; rfl)
    go_enter Tryz.func63, Tryz.ntmps63
    go_wp2_with fail
    go_ret
    exact ⟨ret_bool (unhide Hs).symm, rfl⟩
  | true =>
    cases h2 : decide (wk < W) with
    | false =>
      have Hs : Hid (placeB ns.length W wk n = false) := hide (by rw [unhide Hp, h1, h2]; rfl)
      go_enter Tryz.func63, Tryz.ntmps63
      go_wp2_with fail
      go_ret
      exact ⟨ret_bool (unhide Hs).symm, rfl⟩
    | true =>
      cases h3 : decide (0 ≤ n) with
      | false =>
        have Hs : Hid (placeB ns.length W wk n = false) := hide (by rw [unhide Hp, h1, h2, h3]; rfl)
        go_enter Tryz.func63, Tryz.ntmps63
        go_wp2_with fail
        go_ret
        exact ⟨ret_bool (unhide Hs).symm, rfl⟩
      | true =>
        have Hs : Hid (placeB ns.length W wk n = decide (n < (ns.length : Int))) := hide (by rw [unhide Hp, h1, h2, h3]; simp)
        go_enter Tryz.func63, Tryz.ntmps63
        go_wp2_with fail
        go_ret
        exact ⟨ret_bool (unhide Hs).symm, rfl⟩

/-- P7's first errors. -/
def sourceE (ns : List Nd) (W : Nat) (op : List Gv) (w n : Int) : Int :=
  if placeB ns.length W w n then (if (ndn ns n.toNat).kind == 0 then (if decide (0 < doneTo op w n 3 op.length) then 4 else 0) else 3) else 3
theorem placeB_iff {len W : Nat} {w n : Int} : placeB len W w n = true ↔ (0 ≤ w ∧ w < W) ∧ (0 ≤ n ∧ n < len) := by simp [placeB]
theorem placeB_no {len W : Nat} {w n : Int} (h : ¬ ((0 ≤ w ∧ w < W) ∧ (0 ≤ n ∧ n < len))) : placeB len W w n = false := by
  cases e : placeB len W w n with
  | false => rfl
  | true => exact absurd (placeB_iff.1 e) h

set_option maxRecDepth 100000 in
set_option maxHeartbeats 2000000 in
theorem rsource_any {rb : Nat} {x : RV} {ns : List Nd} {R W : Nat} {D : Nat → Nat → Int} {st : RSt} (wk n : Int) (w : World) (hR : RRead w rb x ns R W D st) :
    Calls Tryz.prog 57 #[.pointer (some ⟨rb, 0, none⟩), .int .i64 wk, .int .i64 n] w fun e w' => e = .returned (.int .i64 (sourceE ns W st.opened wk n)) ∧ w' = w := by
  have c0 := hR.c0
  have c2 := hR.c2
  have hlt0 := hR.lt
  have hsm := hR.small
  have hnd := hR.nodes
  have HR := hide hR
  clear hR
  have Hno : Hid (¬ ((0 ≤ wk ∧ wk < W) ∧ (0 ≤ n ∧ n < ns.length)) → sourceE ns W st.opened wk n = 3) := hide (fun h => by unfold sourceE; rw [placeB_no h]; rfl)
  have Hyes : Hid ((0 ≤ wk ∧ wk < W) ∧ (0 ≤ n ∧ n < ns.length) → sourceE ns W st.opened wk n = (if (ndn ns n.toNat).kind == 0 then (if decide (0 < doneTo st.opened wk n 3 st.opened.length) then 4 else 0) else 3)) := hide (fun h => by unfold sourceE; rw [placeB_iff.2 h]; rfl)
  by_cases h1 : wk < 0
  · have d1 : decide (wk < 0) = true := by simpa using h1
    have He := hide ((unhide Hno) (by omega))
    go_enter Tryz.func57, Tryz.ntmps57
    go_wp2_with fail
    go_ret
    exact ⟨ret_int (unhide He).symm, rfl⟩
  · have d1 : decide (wk < 0) = false := by simpa using h1
    by_cases h2 : (W : Int) ≤ wk
    · have d2 : decide ((W : Int) ≤ wk) = true := by simpa using h2
      have He := hide ((unhide Hno) (by omega))
      clear h1 h2
      go_enter Tryz.func57, Tryz.ntmps57
      go_wp2_with fail
      go_ret
      exact ⟨ret_int (unhide He).symm, rfl⟩
    · have d2 : decide ((W : Int) ≤ wk) = false := by simpa using h2
      by_cases h3 : n < 0
      · have d3 : decide (n < 0) = true := by simpa using h3
        have He := hide ((unhide Hno) (by omega))
        clear h1 h2 h3
        go_enter Tryz.func57, Tryz.ntmps57
        go_wp2_with fail
        go_ret
        exact ⟨ret_int (unhide He).symm, rfl⟩
      · have d3 : decide (n < 0) = false := by simpa using h3
        by_cases h4 : (ns.length : Int) ≤ n
        · have d4 : decide ((ns.length : Int) ≤ n) = true := by simpa using h4
          have He := hide ((unhide Hno) (by omega))
          clear h1 h2 h3 h4
          go_enter Tryz.func57, Tryz.ntmps57
          go_wp2_with fail
          go_ret
          exact ⟨ret_int (unhide He).symm, rfl⟩
        · obtain ⟨k, rfl⟩ := Int.eq_ofNat_of_zero_le (a := n) (by omega)
          have hk : k < ns.length := by omega
          have d3' : decide ((k : Int) < 0) = false := by simp
          have d4 : decide ((ns.length : Int) ≤ (k : Int)) = false := by simp; omega
          have d5 : decide (ns.length ≤ k) = false := by simp; omega
          have Hy := hide ((unhide Hyes) (by omega))
          rw [Int.toNat_natCast] at Hy
          clear h1 h2 h3 h4 Hno Hyes
          obtain ⟨b, off, e, hb, hc⟩ := hnd k hk
          have n0 := (hc k hk).1
          rw [e] at c0
          clear hc
          cases k0 : ((ndn ns k).kind == 0) with
          | false =>
            have k0n : ((ndn ns k).kind != 0) = true := by simp [bne, k0]
            have He : Hid (sourceE ns W st.opened wk k = 3) := hide (by rw [unhide Hy, k0]; rfl)
            clear k0 Hy
            go_enter Tryz.func57, Tryz.ntmps57
            go_wp2_with fail
            go_ret
            exact ⟨ret_int (unhide He).symm, rfl⟩
          | true =>
            have k0n : ((ndn ns k).kind != 0) = false := by simp [bne, k0]
            have Hd := hide (fun w' h => rdone_any wk (k : Int) 3 w' (h : RRead w' rb x ns R W D st))
            by_cases h5 : 0 < doneTo st.opened wk k 3 st.opened.length
            · have He : Hid (sourceE ns W st.opened wk k = 4) := hide (by rw [unhide Hy, k0, show decide (0 < doneTo st.opened wk k 3 st.opened.length) = true by simpa using h5]; rfl)
              clear k0 Hy
              generalize doneTo st.opened wk k 3 st.opened.length = dn at *
              go_enter Tryz.func57, Tryz.ntmps57
              go_wp2_with (go_at_call 58; refine ((unhide Hd) _ (unhide HR)).mono ?_; rintro e w' ⟨rfl, rfl⟩)
              go_ret
              exact ⟨ret_int (unhide He).symm, rfl⟩
            · have h50 : doneTo st.opened wk k 3 st.opened.length = 0 := by omega
              have He : Hid (sourceE ns W st.opened wk k = 0) := hide (by rw [unhide Hy, k0, h50]; rfl)
              rw [h50] at Hd
              clear k0 Hy h5 h50
              go_enter Tryz.func57, Tryz.ntmps57
              go_wp2_with (go_at_call 58; refine ((unhide Hd) _ (unhide HR)).mono ?_; rintro e w' ⟨rfl, rfl⟩)
              go_ret
              exact ⟨ret_int (unhide He).symm, rfl⟩

/-- Which mail waits at a node of a worker. -/
def waitB (ms : List Ml) (w n : Int) (i : Nat) : Bool := !(mln ms i).gone && ((mln ms i).worker == w) && ((mln ms i).node == n)
def waitTo (ms : List Ml) (w n : Int) : Nat → List Int
  | 0 => []
  | i + 1 => if waitB ms w n i then waitTo ms w n i ++ [(i : Int)] else waitTo ms w n i
theorem waitTo_len (ms : List Ml) (w n : Int) (k : Nat) : (waitTo ms w n k).length ≤ k := by
  induction k with
  | zero => simp [waitTo]
  | succ k ih => unfold waitTo; split <;> (try simp) <;> omega
theorem waitTo_yes {ms : List Ml} {w n : Int} {i : Nat} (h : waitB ms w n i = true) : waitTo ms w n (i + 1) = waitTo ms w n i ++ [(i : Int)] := by rw [waitTo, if_pos h]
theorem waitTo_no {ms : List Ml} {w n : Int} {i : Nat} (h : waitB ms w n i = false) : waitTo ms w n (i + 1) = waitTo ms w n i := by rw [waitTo, h]; rfl
theorem waitTo_mem {ms : List Ml} {w n : Int} {k : Nat} : ∀ z ∈ waitTo ms w n k, ∃ i : Nat, z = i ∧ i < k := by
  induction k with
  | zero => intro z hz; simp [waitTo] at hz
  | succ k ih =>
    intro z hz
    unfold waitTo at hz
    split at hz
    · rcases List.mem_append.1 hz with hz | hz
      · obtain ⟨i, e, hi⟩ := ih z hz; exact ⟨i, e, by omega⟩
      · simp at hz; exact ⟨k, hz, by omega⟩
    · obtain ⟨i, e, hi⟩ := ih z hz; exact ⟨i, e, by omega⟩

set_option maxRecDepth 100000 in
set_option maxHeartbeats 2000000 in
theorem rwaits_any {rb : Nat} {x : RV} {ns : List Nd} {R W : Nat} {D : Nat → Nat → Int} {st : RSt} (wk n : Int) (w : World) (hR : RRead w rb x ns R W D st) :
    Calls Tryz.prog 44 #[.pointer (some ⟨rb, 0, none⟩), .int .i64 wk, .int .i64 n] w fun e w' => ∃ v, e = .returned v ∧ Own w w' v (waitTo st.mails wk n st.mails.length) ∧ Bw w w' := by
  have hl := hR.few.2.1
  have HR := hide hR
  clear hR
  obtain ⟨ms, lg, ev, op, tl⟩ := st
  simp only at *
  go_enter Tryz.func44, Tryz.ntmps44
  go_wp2_with fail
  go_loopw [7, 8] (fun v i wr => ∃ k : Nat, k ≤ ms.length ∧ i = .int .i64 k ∧ Own w wr v (waitTo ms wk n k) ∧ Bw w wr) (fun _ i _ => ms.length - (intOf i).toNat)
  case atStart => exact ⟨0, Nat.zero_le _, rfl, Own.nil _ _, Bw.refl _⟩
  case round =>
    obtain ⟨k, hk, rfl, hown, hB⟩ := hrel
    have hln := waitTo_len ms wk n k
    have hR2 := (unhide HR).below hB
    have c3 := hR2.c3
    have hlt0 := hR2.lt
    have hml := hR2.mails
    clear hR2
    simp only at c3 hml
    by_cases hlt : k < ms.length
    · obtain ⟨b, off, e, hb, hc⟩ := hml k hlt
      obtain ⟨d0, d1, d2, d3, d4, d5⟩ := hc k hlt
      rw [e] at c3
      clear hc hml
      have Hy := hide (@waitTo_yes ms wk n k)
      have Hn := hide (@waitTo_no ms wk n k)
      have Hd : Hid (waitB ms wk n k = (!(mln ms k).gone && ((mln ms k).worker == wk) && ((mln ms k).node == n))) := hide rfl
      generalize mln ms k = y at *
      generalize hdb : waitB ms wk n k = db at Hd Hy Hn
      clear hdb
      cases h1 : y.gone with
      | true =>
        have Hs := hide ((unhide Hn) (by rw [unhide Hd, h1]; rfl))
        clear Hy Hn Hd
        rw [h1] at d5
        go_wp2_with fail
        go_roundw
        case rel => exact ⟨k + 1, by omega, by go_num, by rw [unhide Hs]; exact hown.bw (by repeat (first | exact Bw.refl _ | assumption | refine Bw.drew ?_ | refine Bw.drewN ?_ _ | refine Bw.alloc ?_ _ | refine Bw.trans ?_ (by assumption))), (by repeat (first | exact Bw.refl _ | assumption | refine Bw.drew ?_ | refine Bw.drewN ?_ _ | refine Bw.alloc ?_ _ | refine Bw.trans ?_ (by assumption)))⟩
        case measure => simp [intOf]; omega
      | false =>
        rw [h1] at d5
        cases h2 : (y.worker == wk) with
        | false =>
          have Hs := hide ((unhide Hn) (by rw [unhide Hd, h1, h2]; rfl))
          clear Hy Hn Hd
          go_wp2_with fail
          go_roundw
          case rel => exact ⟨k + 1, by omega, by go_num, by rw [unhide Hs]; exact hown.bw (by repeat (first | exact Bw.refl _ | assumption | refine Bw.drew ?_ | refine Bw.drewN ?_ _ | refine Bw.alloc ?_ _ | refine Bw.trans ?_ (by assumption))), (by repeat (first | exact Bw.refl _ | assumption | refine Bw.drew ?_ | refine Bw.drewN ?_ _ | refine Bw.alloc ?_ _ | refine Bw.trans ?_ (by assumption)))⟩
          case measure => simp [intOf]; omega
        | true =>
          cases h3 : (y.node == n) with
          | false =>
            have Hs := hide ((unhide Hn) (by rw [unhide Hd, h1, h2, h3]; rfl))
            clear Hy Hn Hd
            go_wp2_with fail
            go_roundw
            case rel => exact ⟨k + 1, by omega, by go_num, by rw [unhide Hs]; exact hown.bw (by repeat (first | exact Bw.refl _ | assumption | refine Bw.drew ?_ | refine Bw.drewN ?_ _ | refine Bw.alloc ?_ _ | refine Bw.trans ?_ (by assumption))), (by repeat (first | exact Bw.refl _ | assumption | refine Bw.drew ?_ | refine Bw.drewN ?_ _ | refine Bw.alloc ?_ _ | refine Bw.trans ?_ (by assumption)))⟩
            case measure => simp [intOf]; omega
          | true =>
            have Hs := hide ((unhide Hy) (by rw [unhide Hd, h1, h2, h3]; rfl))
            clear Hy Hn Hd
            go_wp2_with (at_builtin; refine app1 _ rfl _ _ rfl _ _ (waitTo ms wk n k) rfl (hown.bw (by repeat (first | exact Bw.refl _ | assumption | refine Bw.drew ?_ | refine Bw.drewN ?_ _ | refine Bw.alloc ?_ _ | refine Bw.trans ?_ (by assumption)))) _ _ (k : Int) rfl (by simp) (by omega) (by repeat (first | exact Bw.refl _ | assumption | refine Bw.drew ?_ | refine Bw.drewN ?_ _ | refine Bw.alloc ?_ _ | refine Bw.trans ?_ (by assumption))) ?_; intro v' w1 hown1 hB1 hgr1)
            go_roundw
            case rel => exact ⟨k + 1, by omega, by go_num, by rw [unhide Hs]; exact hown1, hB1⟩
            case measure => simp [intOf]; omega
    · have hkk : k = ms.length := by omega
      subst hkk
      go_wp2_with fail
      go_ret
      exact ⟨_, rfl, hown, hB⟩
end Go.Proofs.YtfemleimkbjehaaGreat
namespace Go.Proofs.YtfemleimkbjehaaGreat
set_option linter.unusedVariables false
set_option linter.unusedSimpArgs false
open Go.RowKit

theorem Tryz.infoMessage : (Tryz.prog.info? 62).map (fun i => (i.zero, i.size, i.bytes)) = some (some (.agg #[.int .i64 0, .int .i64 0, .int .i64 0]), 3, 24) := by kernel_rfl
def msgOf (m : Ml) : Gv := ⟨m.epoch, m.round, m.value⟩
def waitL (ms : List Ml) (w n : Int) : List Gv := (waitTo ms w n ms.length).map fun z => msgOf (mln ms z.toNat)
def waitE (len W : Nat) (w n : Int) : Int := if placeB len W w n then 0 else 3
def waitR (ms : List Ml) (len W : Nat) (w n : Int) : List Gv := if placeB len W w n then waitL ms w n else []

set_option maxRecDepth 100000 in
set_option maxHeartbeats 2000000 in
theorem rwaiting_any {rb : Nat} {x : RV} {ns : List Nd} {R W : Nat} {D : Nat → Nat → Int} {st : RSt} (wk n : Int) (w : World) (hR : RRead w rb x ns R W D st) :
    Calls Tryz.prog 35 #[.pointer (some ⟨rb, 0, none⟩), .int .i64 wk, .int .i64 n] w fun e w' => ∃ v, e = .returned (.tuple #[v, .int .i64 (waitE ns.length W wk n)]) ∧ OwnG 62 w w' v (waitR st.mails ns.length W wk n) ∧ Bw w w' := by
  have HR := hide hR
  have hl := hR.few.2.1
  clear hR
  cases hp : placeB ns.length W wk n with
  | false =>
    have Hp := hide hp
    have He : Hid (waitE ns.length W wk n = 3) := hide (by unfold waitE; rw [hp]; rfl)
    have Hr : Hid (waitR st.mails ns.length W wk n = []) := hide (by unfold waitR; rw [hp]; rfl)
    clear hp
    go_enter Tryz.func35, Tryz.ntmps35
    go_wp2_with (go_at_call 63; refine (rplace_any wk n _ (unhide HR)).mono ?_; rintro e w' ⟨rfl, rfl⟩; rw [unhide Hp])
    go_ret2
    exact ⟨.slice none 0 0, by rw [unhide He]; rfl, by rw [unhide Hr]; exact OwnG.nil _ _ _, Bw.refl _⟩
  | true =>
    have Hp := hide hp
    have He : Hid (waitE ns.length W wk n = 0) := hide (by unfold waitE; rw [hp]; rfl)
    have Hr : Hid (waitR st.mails ns.length W wk n = waitL st.mails wk n) := hide (by unfold waitR; rw [hp]; rfl)
    have Hw := hide (fun w' h => rwaits_any wk n w' (h : RRead w' rb x ns R W D st))
    have Hmem := hide (@waitTo_mem st.mails wk n st.mails.length)
    have hlen := waitTo_len st.mails wk n st.mails.length
    have HL : Hid (waitL st.mails wk n = (waitTo st.mails wk n st.mails.length).map fun z => msgOf (mln st.mails z.toNat)) := hide rfl
    generalize waitTo st.mails wk n st.mails.length = ws at *
    clear hp
    go_enter Tryz.func35, Tryz.ntmps35
    go_wp2_with (go_at_call 63; refine (rplace_any wk n _ (unhide HR)).mono ?_; rintro e w' ⟨rfl, rfl⟩; rw [unhide Hp])
    refine ((unhide Hw) _ (unhide HR)).mono ?_
    rintro en w1 ⟨v, rfl, ho, hB1⟩
    obtain ⟨wa, wc, rfl, hwc⟩ := ho.slice
    have hwi := ho.ints.1
    clear ho
    go_wp2_with fail
    go_loopw [9, 11] (fun v i wr => ∃ k : Nat, k ≤ ws.length ∧ i = .int .i64 k ∧ OwnG 62 w1 wr v ((ws.take k).map fun z => msgOf (mln st.mails z.toNat)) ∧ Bw w1 wr) (fun _ i _ => ws.length - (intOf i).toNat)
    case atStart => exact ⟨0, Nat.zero_le _, rfl, by simp only [List.take_zero, List.map_nil]; exact OwnG.nil _ _ _, Bw.refl _⟩
    case round =>
      obtain ⟨k, hk, rfl, hown, hB⟩ := hrel
      have hR2 := (unhide HR).below (hB1.trans hB)
      have c3 := hR2.c3
      have hlt0 := hR2.lt
      have hml := hR2.mails
      clear hR2
      by_cases hlt : k < ws.length
      · obtain ⟨m, em, hm⟩ := (unhide Hmem) (nth ws k) (nth_mem hlt)
        obtain ⟨b2, off2, rfl, hb2, hc2⟩ := (hwi.below hB) k hlt
        have d := hc2 k hlt
        rw [em] at d
        obtain ⟨b, off, e, hb, hc⟩ := hml m hm
        obtain ⟨d0, d1, d2, d3, d4, d5⟩ := hc m hm
        rw [e] at c3
        have Hs : Hid (((ws.take (k + 1)).map fun z => msgOf (mln st.mails z.toNat)) = ((ws.take k).map fun z => msgOf (mln st.mails z.toNat)) ++ [msgOf (mln st.mails m)]) := hide (by rw [take_nth hlt, List.map_append, em]; simp)
        have hLk : ((ws.take k).map fun z => msgOf (mln st.mails z.toNat)).length + 1 ≤ 1000000000 := by rw [List.length_map, List.length_take]; omega
        have HLk := hide hLk
        clear hc hc2 hml em hLk
        have hj1 : (0 : Int) ≤ (k : Int) := by omega
        have hj2 : (k : Int) < (ws.length : Int) := by omega
        have hj3 : (0 : Int) ≤ (m : Int) := by omega
        have hj4 : (m : Int) < (st.mails.length : Int) := by omega
        generalize ((ws.take k).map fun z => msgOf (mln st.mails z.toNat)) = L at *
        go_wp2_with fail
        go_region_law (refine stepT rfl _ _ _ 62 rfl _ 3 24 Tryz.infoMessage Tryz.underlying58 rfl (by decide) w1.heap.size _ L.length (gvCells L) rfl (hown.bw (by repeat (first | exact Bw.refl _ | assumption | refine Bw.drew ?_ | refine Bw.drewN ?_ _ | refine Bw.alloc ?_ _ | refine Bw.trans ?_ (by assumption)))) _ _ (Gv.cells (msgOf (mln st.mails m))) rfl rfl (gv_cells (by simp; rfl) (by simp; rfl) (by simp; rfl)) (gv_one _) (unhide HLk) (by omega) (Bw.size (by repeat (first | exact Bw.refl _ | assumption | refine Bw.drew ?_ | refine Bw.drewN ?_ _ | refine Bw.alloc ?_ _ | refine Bw.trans ?_ (by assumption)))) ?_; intro v' w4 ho4 hg4)
        all_goals go_wp2_with fail
        all_goals go_roundw
        all_goals first | exact ⟨k + 1, by omega, by go_num, by rw [unhide Hs]; exact OwnG.snoc ho4, Bw.grown (by repeat (first | exact Bw.refl _ | assumption | refine Bw.drew ?_ | refine Bw.drewN ?_ _ | refine Bw.alloc ?_ _ | refine Bw.trans ?_ (by assumption))) (hown.bw (by repeat (first | exact Bw.refl _ | assumption | refine Bw.drew ?_ | refine Bw.drewN ?_ _ | refine Bw.alloc ?_ _ | refine Bw.trans ?_ (by assumption)))) hg4 (Nat.le_refl _)⟩ | (simp [intOf]; omega)
      · have hkk : k = ws.length := by omega
        subst hkk
        rw [List.take_length] at hown
        go_wp2_with fail
        go_ret2
        exact ⟨_, by rw [unhide He]; rfl, by rw [unhide Hr, unhide HL]; exact hown.weaken hB1, hB1.trans hB⟩

/-- The place of a point in a table. -/
def spotN (R node epoch round : Nat) (out : Bool) : Nat := ((2 * node + (if out then 1 else 0)) * 6 + epoch) * R + round
theorem spotN_lt {R L node epoch round : Nat} {out : Bool} (hn : node < L) (he : epoch < 6) (hr : round < R) : spotN R node epoch round out < 2 * L * 6 * R := by
  unfold spotN
  have h1 : (2 * node + (if out then 1 else 0)) * 6 + epoch + 1 ≤ 2 * L * 6 := by split <;> omega
  calc ((2 * node + (if out then 1 else 0)) * 6 + epoch) * R + round < ((2 * node + (if out then 1 else 0)) * 6 + epoch) * R + R := by omega
    _ = ((2 * node + (if out then 1 else 0)) * 6 + epoch + 1) * R := by rw [Nat.add_mul _ 1 R, Nat.one_mul]
    _ ≤ 2 * L * 6 * R := Nat.mul_le_mul_right _ h1

theorem spot_wrap {R node epoch round o : Nat} (ho : o ≤ 1) (hn : node < 8) (he : epoch < 6) (hr : round < R) (hR : R ≤ 4) : wrap64 (wrap64 (((2 * (node : Int) + o) * 6 + epoch) * R) + round) = ((((2 * node + o) * 6 + epoch) * R + round : Nat) : Int) := by
  have h1 : ((2 * (node : Int) + o) * 6 + epoch) * R = ((((2 * node + o) * 6 + epoch) * R : Nat) : Int) := by simp
  have h2 : ((2 * node + o) * 6 + epoch) * R ≤ 200 * 4 := Nat.mul_le_mul (by omega) hR
  have h3 : wrap64 ((((2 * node + o) * 6 + epoch) * R : Nat) : Int) = ((((2 * node + o) * 6 + epoch) * R : Nat) : Int) := by
    generalize ((2 * node + o) * 6 + epoch) * R = P at *
    unfold wrap64; omega
  rw [h1, h3]
  generalize ((2 * node + o) * 6 + epoch) * R = P at *
  unfold wrap64
  omega

set_option maxRecDepth 100000 in
set_option maxHeartbeats 2000000 in
theorem rspot_any {rb : Nat} {x : RV} {ns : List Nd} {R W : Nat} {D : Nat → Nat → Int} {st : RSt} (node epoch round : Nat) (out : Bool) (ct : Int) (w : World) (hR : RRead w rb x ns R W D st) (hn : node < ns.length) (he : epoch < 6) (hr : round < R) :
    Calls Tryz.prog 66 #[.pointer (some ⟨rb, 0, none⟩), .agg #[.int .i64 (node : Int), .bool out, .int .i64 (epoch : Int), .int .i64 (round : Int), .int .i64 ct]] w fun e w' => e = .returned (.int .i64 (spotN R node epoch round out : Nat)) ∧ Bw w w' := by
  have c1 := hR.c1
  have hlt0 := hR.lt
  obtain ⟨s1, s2, s3, s4, s5⟩ := hR.small
  clear hR
  cases out with
  | false =>
    have Hs : Hid (wrap64 (wrap64 ((2 * (node : Int) * 6 + epoch) * R) + round) = (spotN R node epoch round false : Nat)) := hide (by
      have := spot_wrap (o := 0) (by omega) (show node < 8 by omega) he hr s2
      simpa [spotN] using this)
    go_enter Tryz.func66, Tryz.ntmps66
    go_wp2_with fail
    go_quiet (fail)
    go_wp2_with fail
    go_ret
    exact ⟨ret_int (unhide Hs), (by repeat (first | exact Bw.refl _ | assumption | refine Bw.drew ?_ | refine Bw.drewN ?_ _ | refine Bw.alloc ?_ _ | refine Bw.trans ?_ (by assumption)))⟩
  | true =>
    have Hs : Hid (wrap64 (wrap64 (((2 * (node : Int) + 1) * 6 + epoch) * R) + round) = (spotN R node epoch round true : Nat)) := hide (by
      have := spot_wrap (o := 1) (by omega) (show node < 8 by omega) he hr s2
      simpa [spotN] using this)
    go_enter Tryz.func66, Tryz.ntmps66
    go_wp2_with fail
    go_quiet (fail)
    go_wp2_with fail
    go_ret
    exact ⟨ret_int (unhide Hs), (by repeat (first | exact Bw.refl _ | assumption | refine Bw.drew ?_ | refine Bw.drewN ?_ _ | refine Bw.alloc ?_ _ | refine Bw.trans ?_ (by assumption)))⟩
end Go.Proofs.YtfemleimkbjehaaGreat
