import Derived.Test.YtfemleimkbjehaaGreatJ7
namespace Go.Proofs.YtfemleimkbjehaaGreat
set_option linter.unusedVariables false
set_option linter.unusedSimpArgs false
open Go.RowKit

theorem Tryz.infoNode : (Tryz.prog.info? 46).map (fun i => (i.zero, i.size, i.bytes)) = some (some (.agg #[.int .i64 0, .int .i64 0, .int .i64 0, .int .i64 0, .int .i64 0]), 5, 40) := by kernel_rfl

def Nd.cells (x : Nd) : List Value := [.int .i64 x.kind, .int .i64 x.a, .int .i64 x.b, .int .i64 x.k, .int .i64 x.m]
def nodeCells (ns : List Nd) : List Value := ns.flatMap Nd.cells
theorem nodeCells_len (ns : List Nd) : (nodeCells ns).length = ns.length * 5 := by
  induction ns with
  | nil => rfl
  | cons x l ih => simp only [nodeCells, List.flatMap_cons, List.length_append] at ih ⊢; rw [ih]; simp [Nd.cells]; omega
theorem ndn_lt {ns : List Nd} {j : Nat} (h : j < ns.length) : ndn ns j = ns[j] := getD_lt _ _ h
theorem nodeCells_get (ns : List Nd) : ∀ (j : Nat), j < ns.length → ∀ f, f < 5 → (nodeCells ns)[j * 5 + f]? = (Nd.cells (ndn ns j))[f]? := by
  induction ns with
  | nil => intro j hj; simp at hj
  | cons x l ih =>
    intro j hj f hf
    cases j with
    | zero =>
      simp only [nodeCells, List.flatMap_cons, Nat.zero_mul, Nat.zero_add]
      rw [List.getElem?_append_left (by simp [Nd.cells]; omega)]
      rfl
    | succ j =>
      simp only [nodeCells, List.flatMap_cons]
      rw [List.getElem?_append_right (by simp [Nd.cells]; omega)]
      have := ih j (by simpa using hj) f hf
      simp only [nodeCells] at this
      rw [show (j + 1) * 5 + f - (Nd.cells x).length = j * 5 + f by simp [Nd.cells]; omega, this]
      rfl
theorem nodeCells_one (ns : List Nd) : ∀ u ∈ nodeCells ns, u.oneCell' = true := by
  intro u hu
  simp only [nodeCells, List.mem_flatMap, Nd.cells] at hu
  obtain ⟨x, _, hu⟩ := hu
  simp at hu
  rcases hu with rfl | rfl | rfl | rfl | rfl <;> rfl
theorem nodeCells_src {w : World} {ns : List Nd} {b off : Nat} (hc : ∀ j, j < ns.length →
    w.cell? ⟨b, off + j * 5, none⟩ = some (.int .i64 (ndn ns j).kind) ∧ w.cell? ⟨b, off + j * 5 + 1, none⟩ = some (.int .i64 (ndn ns j).a) ∧
    w.cell? ⟨b, off + j * 5 + 2, none⟩ = some (.int .i64 (ndn ns j).b) ∧ w.cell? ⟨b, off + j * 5 + 3, none⟩ = some (.int .i64 (ndn ns j).k) ∧
    w.cell? ⟨b, off + j * 5 + 4, none⟩ = some (.int .i64 (ndn ns j).m)) : ∀ p u, (nodeCells ns)[p]? = some u → w.cell? ((⟨b, off, none⟩ : Addr).add p) = some u := by
  intro p u hp
  have hlt : p < ns.length * 5 := by
    by_cases h : p < ns.length * 5
    · exact h
    · rw [List.getElem?_eq_none (by rw [nodeCells_len]; omega)] at hp; cases hp
  obtain ⟨j, f, hf, rfl⟩ : ∃ j f, f < 5 ∧ p = j * 5 + f := ⟨p / 5, p % 5, Nat.mod_lt _ (by omega), by omega⟩
  have hj : j < ns.length := by omega
  rw [nodeCells_get ns j hj f hf] at hp
  obtain ⟨c0, c1, c2, c3, c4⟩ := hc j hj
  refine add_cell ?_
  rw [← Nat.add_assoc]
  match f, hf with
  | 0, _ => simp [Nd.cells] at hp; subst hp; exact c0
  | 1, _ => simp [Nd.cells] at hp; subst hp; exact c1
  | 2, _ => simp [Nd.cells] at hp; subst hp; exact c2
  | 3, _ => simp [Nd.cells] at hp; subst hp; exact c3
  | 4, _ => simp [Nd.cells] at hp; subst hp; exact c4

/-- 'copy' into a row that is known whole, from its head. -/
theorem run_copyN {P : Program} (w : World) (dT sT ty elem : TypeId) (i : TypeInfo) (hu : P.underlying dT = some (.slice elem)) (hi : P.info? elem = some i)
    (g dLen dCap : Nat) (sa : Option Addr) (sLen sCap : Nat) (cur : Array Value) (t : TypeId) (cs : List Value) (hg : w.heap[g]? = some (.cells cur t (0, 0)))
    (hle : sLen ≤ dLen) (hn : cs.length = sLen * i.size) (hsrc : 0 < sLen → ∃ a, sa = some a ∧ ∀ j v, cs[j]? = some v → w.cell? (a.add j) = some v) (hfit : cs.length ≤ cur.size) (h1 : ∀ v ∈ cs, v.oneCell' = true) :
    ∃ w', (Builtin.copy_ #[dT, sT] ty #[.slice (some ⟨g, 0, none⟩) dLen dCap, .slice sa sLen sCap]).run P w = .ok (goInt sLen) w' ∧
      w'.heap[g]? = some (.cells (cs ++ cur.toList.drop cs.length).toArray t (0, 0)) ∧ w.grownBy w' (some g) := by
  have hst := run_storeCells_at P g 0 t cs 0 cur w hg (by simpa using hfit) h1
  simp only [Nat.add_zero, Nat.zero_add, List.take_zero, List.nil_append] at hst
  have hmin : Nat.min sLen dLen = sLen := Nat.min_eq_left hle
  refine ⟨w.setRow g (cs ++ cur.toList.drop cs.length).toArray, ?_, setRow_heap w g cur _ t _ hg, ⟨rfl, rfl, rfl, by simp, fun k _ hk => setRow_other w g k _ (fun e => hk (by simp [e]))⟩⟩
  by_cases h0 : 0 < sLen
  · obtain ⟨a, rfl, hs⟩ := hsrc h0
    have hf := run_firstCells_some (P := P) w i.size sLen a sLen sCap cs hn hs
    simp [Builtin.copy_, run_underlying hu, sizeOf, typeInfo, hi, Builtin.lenOf, hmin, hf, hst]
  · have e0 : sLen = 0 := by omega
    subst e0
    have hc0 : cs = [] := List.eq_nil_of_length_eq_zero (by simpa using hn)
    subst hc0
    simp only [List.nil_append, List.length_nil, List.drop_zero] at hst ⊢
    cases sa with
    | none =>
      simp [Builtin.copy_, run_underlying hu, sizeOf, typeInfo, hi, Builtin.lenOf, Builtin.firstCells, storeCells, setRow_self w g cur t (0, 0) hg]
    | some a =>
      have hf := run_firstCells_some (P := P) w i.size 0 a 0 sCap [] (by simp) (by simp)
      simp [Builtin.copy_, run_underlying hu, sizeOf, typeInfo, hi, Builtin.lenOf, hf, storeCells, setRow_self w g cur t (0, 0) hg]

theorem wpList_copyN {P : Program} {w : World} {ops : Array Oper} {rest : List Oper} {o : Oper} {a : Act} {Q : Exit → Act → World → Prop} (hgd : o.guard = none) (d s : Operand) (dT sT : TypeId)
    (ho : o.op = .call { callee := .builtin .copy, args := #[d, s], argTypes := #[dT, sT] }) (elem : TypeId) (i : TypeInfo) (hu : P.underlying dT = some (.slice elem)) (hi : P.info? elem = some i)
    (g dLen dCap : Nat) (sa : Option Addr) (sLen sCap : Nat) (hd : a.eval d = .slice (some ⟨g, 0, none⟩) dLen dCap) (hs : a.eval s = .slice sa sLen sCap)
    (cur : Array Value) (t : TypeId) (cs : List Value) (hg : w.heap[g]? = some (.cells cur t (0, 0)))
    (hle : sLen ≤ dLen) (hn : cs.length = sLen * i.size) (hsrc : 0 < sLen → ∃ a, sa = some a ∧ ∀ j v, cs[j]? = some v → w.cell? (a.add j) = some v) (hfit : cs.length ≤ cur.size) (h1 : ∀ v ∈ cs, v.oneCell' = true)
    (h : ∀ w', w'.heap[g]? = some (.cells (cs ++ cur.toList.drop cs.length).toArray t (0, 0)) → w.grownBy w' (some g) → wpList P ops Q rest (a.put o.dst (goInt sLen)) w') : wpList P ops Q (o :: rest) a w := by
  obtain ⟨w', hr, h2, h3⟩ := run_copyN (P := P) w dT sT o.type elem i hu hi g dLen dCap sa sLen sCap cur t cs hg hle hn hsrc hfit h1
  refine wpList_plain hgd fun _ hK => ?_
  unfold Oper.wp execOp
  simp only [ho, resolve, invoke, builtin, Sem.run_bind, Sem.run_pure, Result.andThen_ok, List.map_toArray, List.map_cons, List.map_nil, hd, hs, hr]
  exact hK _ _ (h w' h2 h3)
end Go.Proofs.YtfemleimkbjehaaGreat
namespace Go.Proofs.YtfemleimkbjehaaGreat
set_option linter.unusedVariables false
set_option linter.unusedSimpArgs false
open Go.RowKit

theorem cell_of_block {w : World} {g o : Nat} {cs : Array Value} {t : TypeId} {u : Value} (h : w.heap[g]? = some (.cells cs t (0, 0))) (hu : cs[o]? = some u) : w.cell? ⟨g, o, none⟩ = some u := by
  simp [World.cell?, h, hu]
theorem frozen_of_block {w : World} {g o : Nat} {cs : Array Value} {t : TypeId} (h : w.heap[g]? = some (.cells cs t (0, 0))) : w.frozen? ⟨g, o, none⟩ = false := by
  simp [World.frozen?, h]

theorem cs_ne {w : World} {g o b p : Nat} {v : Value} (h : g ≠ b ∨ o ≠ p) : (w.setCell ⟨g, o, none⟩ v).cell? ⟨b, p, none⟩ = w.cell? ⟨b, p, none⟩ :=
  World.cell?_setCell_other _ _ _ _ (by intro e; simp at e; omega)
theorem cs_eq {w : World} {g o : Nat} {v u : Value} (h : w.cell? ⟨g, o, none⟩ = some u) : (w.setCell ⟨g, o, none⟩ v).cell? ⟨g, o, none⟩ = some v :=
  World.cell?_setCell_same _ _ _ h
theorem dr_cell (w : World) (a : Addr) : w.drew.cell? a = w.cell? a := rfl
theorem dr_frozen (w : World) (a : Addr) : w.drew.frozen? a = w.frozen? a := rfl

/-- A graph's nodes with two of the caller's own behind them, in a block of their own. -/
structure Handed (w : World) (g : Nat) (ns : List Nd) : Prop where
  lt : g < w.heap.size
  node : ∀ j, j < ns.length →
    w.cell? ⟨g, j * 5, none⟩ = some (.int .i64 (ndn ns j).kind) ∧ w.cell? ⟨g, j * 5 + 1, none⟩ = some (.int .i64 (ndn ns j).a) ∧
    w.cell? ⟨g, j * 5 + 2, none⟩ = some (.int .i64 (ndn ns j).b) ∧ w.cell? ⟨g, j * 5 + 3, none⟩ = some (.int .i64 (ndn ns j).k) ∧
    w.cell? ⟨g, j * 5 + 4, none⟩ = some (.int .i64 (ndn ns j).m)
  room : w.cell? ⟨g, ns.length * 5, none⟩ = some (.int .i64 (-77)) ∧ w.cell? ⟨g, (ns.length + 1) * 5, none⟩ = some (.int .i64 (-77))
  free : ∀ o, w.frozen? ⟨g, o, none⟩ = false

set_option maxRecDepth 100000 in
set_option maxHeartbeats 2000000 in
theorem handed_any (ns : List Nd) (ga : Option Addr) (gc : Nat) (r : Int) (w : World) (hn : NodesAt w ga ns) (hl : ns.length * 40 ≤ 140737488351232) :
    Calls Tryz.prog 12 #[.agg #[.slice ga ns.length gc, .int .i64 r]] w fun e w' => ∃ g, e = .returned (.agg #[.slice (some ⟨g, 0, none⟩) ns.length (ns.length + 2), .int .i64 r]) ∧ w.heap.size ≤ g ∧ Handed w' g ns ∧ Bw w w' := by
  obtain ⟨i0, hi, hz0, hz1, hz2⟩ := info_parts Tryz.infoNode
  have hmk := fun w : World => run_make (P := Tryz.prog) w 22 46 i0 _ Tryz.underlying22 hi hz0 .i64 .i64 ((ns.length : Int) + 2) ((ns.length : Int) + 2) (by omega) (by omega) (by rw [hz2]; omega) (by omega)
  have e1 : ((ns.length : Int) + 2).toNat = ns.length + 2 := by omega
  rw [e1, hz1] at hmk
  clear e1
  obtain ⟨w1, hr, hg1, hgr⟩ := run_copyN (P := Tryz.prog) (((w.alloc (.cells #[.slice ga ns.length gc, .int .i64 r] 24)).alloc (.cells #[.slice none 0 0, .int .i64 0] 24)).alloc (.cells (madeCells #[.int .i64 0, .int .i64 0, .int .i64 0, .int .i64 0, .int .i64 0] ((ns.length + 2) * 5)) 46)) 22 22 3 46 i0 Tryz.underlying22 hi
    (w.heap.size + 1 + 1) (ns.length + 2) (ns.length + 2) ga ns.length gc _ _ (nodeCells ns) (by have := heap_alloc_new ((w.alloc (.cells #[.slice ga ns.length gc, .int .i64 r] 24)).alloc (.cells #[.slice none 0 0, .int .i64 0] 24)) (.cells (madeCells #[.int .i64 0, .int .i64 0, .int .i64 0, .int .i64 0, .int .i64 0] ((ns.length + 2) * 5)) 46); simpa using this) (by omega) (by rw [nodeCells_len, hz1])
    (by intro h0
        obtain ⟨b, off, rfl, hb, hc⟩ := (hn.below (w' := ((w.alloc (.cells #[.slice ga ns.length gc, .int .i64 r] 24)).alloc (.cells #[.slice none 0 0, .int .i64 0] 24)).alloc (.cells (madeCells #[.int .i64 0, .int .i64 0, .int .i64 0, .int .i64 0, .int .i64 0] ((ns.length + 2) * 5)) 46)) (by repeat (first | exact Bw.refl _ | assumption | refine Bw.drew ?_ | refine Bw.drewN ?_ _ | refine Bw.alloc ?_ _ | refine Bw.trans ?_ (by assumption)))) 0 h0
        exact ⟨_, rfl, nodeCells_src hc⟩) (by rw [nodeCells_len, size_madeCells]; omega) (nodeCells_one ns)
  have hB1 : Bw w w1 := Below.grown (w := ((w.alloc (.cells #[.slice ga ns.length gc, .int .i64 r] 24)).alloc (.cells #[.slice none 0 0, .int .i64 0] 24)).alloc (.cells (madeCells #[.int .i64 0, .int .i64 0, .int .i64 0, .int .i64 0, .int .i64 0] ((ns.length + 2) * 5)) 46)) (by exact (show Bw w _ from (by repeat (first | exact Bw.refl _ | assumption | refine Bw.drew ?_ | refine Bw.drewN ?_ _ | refine Bw.alloc ?_ _ | refine Bw.trans ?_ (by assumption))))) hgr (by simp; omega) (by intro k hk; simp at hk; omega)
  have hsz1 : w.heap.size + 1 + 1 < w1.heap.size := (Array.getElem?_eq_some_iff.1 hg1).1
  have hf : ∀ o, w1.frozen? ⟨w.heap.size + 1 + 1, o, none⟩ = false := fun o => frozen_of_block hg1
  have hsz2 : ((nodeCells ns ++ (madeCells #[.int .i64 0, .int .i64 0, .int .i64 0, .int .i64 0, .int .i64 0] ((ns.length + 2) * 5)).toList.drop (nodeCells ns).length).toArray).size = (ns.length + 2) * 5 := by
    simp [nodeCells_len, size_madeCells]; omega
  have hcs : ∀ o, o < (ns.length + 2) * 5 → ∃ u, w1.cell? ⟨w.heap.size + 1 + 1, o, none⟩ = some u := fun o ho => ⟨_, cell_of_block hg1 (Array.getElem?_eq_getElem (by rw [hsz2]; exact ho))⟩
  have hcn : ∀ p u, (nodeCells ns)[p]? = some u → w1.cell? ⟨w.heap.size + 1 + 1, p, none⟩ = some u := fun p u hp => cell_of_block hg1 (by rw [List.getElem?_toArray, List.getElem?_append_left (List.getElem?_eq_some_iff.1 hp).1]; exact hp)
  have hk1 : w1.cell? ⟨w.heap.size, 0, none⟩ = some (.slice ga ns.length gc) := by
    have h1 := (bcell (show Bw (w.alloc (.cells #[.slice ga ns.length gc, .int .i64 r] 24)) (((w.alloc (.cells #[.slice ga ns.length gc, .int .i64 r] 24)).alloc (.cells #[.slice none 0 0, .int .i64 0] 24)).alloc (.cells (madeCells #[.int .i64 0, .int .i64 0, .int .i64 0, .int .i64 0, .int .i64 0] ((ns.length + 2) * 5)) 46)) from (by repeat (first | exact Bw.refl _ | assumption | refine Bw.drew ?_ | refine Bw.drewN ?_ _ | refine Bw.alloc ?_ _ | refine Bw.trans ?_ (by assumption))))).1 (w.heap.size) 0 (by simp)
    refine (World.cell?_of_block (a := ⟨w.heap.size, 0, none⟩) (hgr.block (w.heap.size) (by simp <;> omega) (by simp <;> omega))).trans (h1.trans ?_)
    simp
  have hk2 : w1.cell? ⟨w.heap.size, 1, none⟩ = some (.int .i64 r) := by
    have h1 := (bcell (show Bw (w.alloc (.cells #[.slice ga ns.length gc, .int .i64 r] 24)) (((w.alloc (.cells #[.slice ga ns.length gc, .int .i64 r] 24)).alloc (.cells #[.slice none 0 0, .int .i64 0] 24)).alloc (.cells (madeCells #[.int .i64 0, .int .i64 0, .int .i64 0, .int .i64 0, .int .i64 0] ((ns.length + 2) * 5)) 46)) from (by repeat (first | exact Bw.refl _ | assumption | refine Bw.drew ?_ | refine Bw.drewN ?_ _ | refine Bw.alloc ?_ _ | refine Bw.trans ?_ (by assumption))))).1 (w.heap.size) 1 (by simp)
    refine (World.cell?_of_block (a := ⟨w.heap.size, 1, none⟩) (hgr.block (w.heap.size) (by simp <;> omega) (by simp <;> omega))).trans (h1.trans ?_)
    simp
  have hk3 : w1.cell? ⟨w.heap.size + 1, 0, none⟩ = some (.slice none 0 0) := by
    have h1 := (bcell (show Bw ((w.alloc (.cells #[.slice ga ns.length gc, .int .i64 r] 24)).alloc (.cells #[.slice none 0 0, .int .i64 0] 24)) (((w.alloc (.cells #[.slice ga ns.length gc, .int .i64 r] 24)).alloc (.cells #[.slice none 0 0, .int .i64 0] 24)).alloc (.cells (madeCells #[.int .i64 0, .int .i64 0, .int .i64 0, .int .i64 0, .int .i64 0] ((ns.length + 2) * 5)) 46)) from (by repeat (first | exact Bw.refl _ | assumption | refine Bw.drew ?_ | refine Bw.drewN ?_ _ | refine Bw.alloc ?_ _ | refine Bw.trans ?_ (by assumption))))).1 (w.heap.size + 1) 0 (by simp)
    refine (World.cell?_of_block (a := ⟨w.heap.size + 1, 0, none⟩) (hgr.block (w.heap.size + 1) (by simp <;> omega) (by simp <;> omega))).trans (h1.trans ?_)
    simp
  have hk4 : w1.cell? ⟨w.heap.size + 1, 1, none⟩ = some (.int .i64 0) := by
    have h1 := (bcell (show Bw ((w.alloc (.cells #[.slice ga ns.length gc, .int .i64 r] 24)).alloc (.cells #[.slice none 0 0, .int .i64 0] 24)) (((w.alloc (.cells #[.slice ga ns.length gc, .int .i64 r] 24)).alloc (.cells #[.slice none 0 0, .int .i64 0] 24)).alloc (.cells (madeCells #[.int .i64 0, .int .i64 0, .int .i64 0, .int .i64 0, .int .i64 0] ((ns.length + 2) * 5)) 46)) from (by repeat (first | exact Bw.refl _ | assumption | refine Bw.drew ?_ | refine Bw.drewN ?_ _ | refine Bw.alloc ?_ _ | refine Bw.trans ?_ (by assumption))))).1 (w.heap.size + 1) 1 (by simp)
    refine (World.cell?_of_block (a := ⟨w.heap.size + 1, 1, none⟩) (hgr.block (w.heap.size + 1) (by simp <;> omega) (by simp <;> omega))).trans (h1.trans ?_)
    simp
  have hf2 : ∀ o, w1.frozen? ⟨w.heap.size + 1, o, none⟩ = false := by
    intro o
    have h1 := (bcell (show Bw ((w.alloc (.cells #[.slice ga ns.length gc, .int .i64 r] 24)).alloc (.cells #[.slice none 0 0, .int .i64 0] 24)) (((w.alloc (.cells #[.slice ga ns.length gc, .int .i64 r] 24)).alloc (.cells #[.slice none 0 0, .int .i64 0] 24)).alloc (.cells (madeCells #[.int .i64 0, .int .i64 0, .int .i64 0, .int .i64 0, .int .i64 0] ((ns.length + 2) * 5)) 46)) from (by repeat (first | exact Bw.refl _ | assumption | refine Bw.drew ?_ | refine Bw.drewN ?_ _ | refine Bw.alloc ?_ _ | refine Bw.trans ?_ (by assumption))))).2 (w.heap.size + 1) o (by simp)
    refine (World.frozen?_of_block (a := ⟨w.heap.size + 1, o, none⟩) (hgr.block (w.heap.size + 1) (by simp <;> omega) (by simp <;> omega))).trans (h1.trans ?_)
    simp
  have HCN := hide hcn
  obtain ⟨u0, a0⟩ := hcs (ns.length * 5) (by omega)
  obtain ⟨u1, a1⟩ := hcs (ns.length * 5 + 1) (by omega)
  obtain ⟨u2, a2⟩ := hcs (ns.length * 5 + 2) (by omega)
  obtain ⟨u3, a3⟩ := hcs (ns.length * 5 + 3) (by omega)
  obtain ⟨u4, a4⟩ := hcs (ns.length * 5 + 4) (by omega)
  obtain ⟨v0, b0⟩ := hcs ((ns.length + 1) * 5) (by omega)
  obtain ⟨v1, b1⟩ := hcs ((ns.length + 1) * 5 + 1) (by omega)
  obtain ⟨v2, b2⟩ := hcs ((ns.length + 1) * 5 + 2) (by omega)
  obtain ⟨v3, b3⟩ := hcs ((ns.length + 1) * 5 + 3) (by omega)
  obtain ⟨v4, b4⟩ := hcs ((ns.length + 1) * 5 + 4) (by omega)
  clear hcn hcs hsz2 hgr hg1
  go_enter Tryz.func12, Tryz.ntmps12
  go_wp2_with fail
  go_region
  go_wp2
  refine bodyPost_ret (v := .agg #[.slice (some ⟨w.heap.size + 1 + 1, 0, none⟩) ns.length (ns.length + 2), .int .i64 r]) (by simp [results, Tryz.results12, go_sem, hk3, hk4]) rfl ⟨w.heap.size + 1 + 1, rfl, by omega, ?_, ?_⟩
  · refine ⟨by simp; omega, ?_, ⟨?_, ?_⟩, ?_⟩
    · intro j hj
      have HN := unhide HCN
      refine ⟨?_, ?_, ?_, ?_, ?_⟩
      · rw [dr_cell]; iterate 12 rw [cs_ne]
        · exact HN _ _ (by have := nodeCells_get ns j hj 0 (by omega); rw [Nat.add_zero] at this; rw [this]; rfl)
        all_goals omega
      · rw [dr_cell]; iterate 12 rw [cs_ne]
        · exact HN _ _ (by rw [nodeCells_get ns j hj 1 (by omega)]; rfl)
        all_goals omega
      · rw [dr_cell]; iterate 12 rw [cs_ne]
        · exact HN _ _ (by rw [nodeCells_get ns j hj 2 (by omega)]; rfl)
        all_goals omega
      · rw [dr_cell]; iterate 12 rw [cs_ne]
        · exact HN _ _ (by rw [nodeCells_get ns j hj 3 (by omega)]; rfl)
        all_goals omega
      · rw [dr_cell]; iterate 12 rw [cs_ne]
        · exact HN _ _ (by rw [nodeCells_get ns j hj 4 (by omega)]; rfl)
        all_goals omega
    · rw [dr_cell]; iterate 11 rw [cs_ne]
      · exact cs_eq a0
      all_goals omega
    · rw [dr_cell]; iterate 6 rw [cs_ne]
      · refine cs_eq (u := v0) ?_
        iterate 5 rw [cs_ne]
        · exact b0
        all_goals omega
      all_goals omega
    · intro o
      rw [dr_frozen]; simp [hf]
  · refine Bw.drew ?_
    iterate 12 refine Bw.setCell ?_ (by simp <;> omega) _
    exact hB1
end Go.Proofs.YtfemleimkbjehaaGreat
namespace Go.Proofs.YtfemleimkbjehaaGreat
set_option linter.unusedVariables false
set_option linter.unusedSimpArgs false
open Go.RowKit

/-- All that was in a is in b as it was, but for the block g. -/
def Kp (g : Nat) (a b : World) : Prop := a.grownBy b (some g)
theorem Kp.refl (g : Nat) (a : World) : Kp g a a := ⟨rfl, rfl, rfl, Nat.le_refl _, fun _ _ _ => rfl⟩
theorem Kp.trans {g : Nat} {a b c : World} (h : Kp g a b) (k : Kp g b c) : Kp g a c :=
  ⟨k.os.trans h.os, k.tape.trans h.tape, k.output.trans h.output, Nat.le_trans h.size k.size, fun i hi hne => (k.block i (Nat.lt_of_lt_of_le hi h.size) hne).trans (h.block i hi hne)⟩
theorem Kp.bw {g : Nat} {a b : World} (h : Bw a b) : Kp g a b := ⟨Below.os h, Below.tape h, Below.output h, Below.size h, fun i hi _ => Below.block h i hi⟩
theorem Kp.setCell {g o : Nat} {a b : World} (h : Kp g a b) (v : Value) : Kp g a (b.setCell ⟨g, o, none⟩ v) :=
  h.trans ⟨rfl, rfl, rfl, by simp, fun i _ hne => Below.heap_setCell _ _ _ _ (fun e => hne (by simp [e]))⟩
theorem Kp.drewN {g : Nat} {a b : World} (h : Kp g a b) (n : Nat) : Kp g a (b.drewN n) := h.trans (Kp.bw ((Bw.refl b).drewN n))
theorem Kp.size {g : Nat} {a b : World} (h : Kp g a b) : a.heap.size ≤ b.heap.size := World.grownBy.size h
theorem Kp.cell {g : Nat} {a b : World} (h : Kp g a b) : ∀ k o, k < a.heap.size → k ≠ g → b.cell? ⟨k, o, none⟩ = a.cell? ⟨k, o, none⟩ :=
  fun k o hk hne => World.cell?_of_block (a := ⟨k, o, none⟩) (World.grownBy.block h k hk (by simpa using hne))
theorem dn_cell (w : World) (n : Nat) (a : Addr) : (w.drewN n).cell? a = w.cell? a := rfl
theorem dn_frozen (w : World) (n : Nat) (a : Addr) : (w.drewN n).frozen? a = w.frozen? a := rfl

/-- The node j of a row at the head of the block g. -/
def NodeCells (w : World) (g : Nat) (ns : List Nd) (j : Nat) : Prop :=
    w.cell? ⟨g, j * 5, none⟩ = some (.int .i64 (ndn ns j).kind) ∧ w.cell? ⟨g, j * 5 + 1, none⟩ = some (.int .i64 (ndn ns j).a) ∧
    w.cell? ⟨g, j * 5 + 2, none⟩ = some (.int .i64 (ndn ns j).b) ∧ w.cell? ⟨g, j * 5 + 3, none⟩ = some (.int .i64 (ndn ns j).k) ∧
    w.cell? ⟨g, j * 5 + 4, none⟩ = some (.int .i64 (ndn ns j).m)
theorem NodeCells.bw {w w' : World} {g : Nat} {ns : List Nd} {j : Nat} (h : NodeCells w g ns j) (hg : g < w.heap.size) (hb : Bw w w') : NodeCells w' g ns j :=
  ⟨((bcell hb).1 _ _ hg).trans h.1, ((bcell hb).1 _ _ hg).trans h.2.1, ((bcell hb).1 _ _ hg).trans h.2.2.1, ((bcell hb).1 _ _ hg).trans h.2.2.2.1, ((bcell hb).1 _ _ hg).trans h.2.2.2.2⟩

theorem NodeCells.after {w : World} {g : Nat} {ns : List Nd} {k j nq : Nat} {x0 x1 x2 x3 x4 : Value} (h : NodeCells w g ns j) (hj : k + 1 ≤ j) :
    NodeCells ((((((w.drewN nq).setCell ⟨g, k * 5, none⟩ x0).setCell ⟨g, k * 5 + 1, none⟩ x1).setCell ⟨g, k * 5 + 2, none⟩ x2).setCell ⟨g, k * 5 + 3, none⟩ x3).setCell ⟨g, k * 5 + 4, none⟩ x4) g ns j := by
  obtain ⟨c0, c1, c2, c3, c4⟩ := h
  refine ⟨?_, ?_, ?_, ?_, ?_⟩
  · iterate 5 rw [cs_ne]
    · exact c0
    all_goals omega
  · iterate 5 rw [cs_ne]
    · exact c1
    all_goals omega
  · iterate 5 rw [cs_ne]
    · exact c2
    all_goals omega
  · iterate 5 rw [cs_ne]
    · exact c3
    all_goals omega
  · iterate 5 rw [cs_ne]
    · exact c4
    all_goals omega

set_option maxRecDepth 100000 in
set_option maxHeartbeats 2000000 in
theorem still_any (ns : List Nd) (ga : Option Addr) (g0 gc : Nat) (r r' : Int) (w0 w : World) (hn : NodesAt w0 ga ns) (hB0 : Bw w0 w) (hg0 : w0.heap.size ≤ g0) (hh : Handed w g0 ns) (hl : ns.length * 40 ≤ 140737488351232) :
    Calls Tryz.prog 14 #[.agg #[.slice (some ⟨g0, 0, none⟩) ns.length (ns.length + 2), .int .i64 r'], .agg #[.slice ga ns.length gc, .int .i64 r]] w fun e w' => e = .returned (.bool true) ∧ Kp g0 w w' := by
  have hgl := hh.lt
  obtain ⟨hr0, hr1⟩ := hh.room
  go_enter Tryz.func14, Tryz.ntmps14
  go_wp2_with fail
  go_loopw [7, 8] (fun v i wr => ∃ k : Nat, k ≤ ns.length ∧ i = .int .i64 k ∧ v = .bool true ∧ (∀ j, k ≤ j → j < ns.length → NodeCells wr g0 ns j) ∧ (∀ o, wr.frozen? ⟨g0, o, none⟩ = false) ∧ Kp g0 ((w.alloc (.cells #[.slice (some ⟨g0, 0, none⟩) ns.length (ns.length + 2), .int .i64 r'] 24)).alloc (.cells #[.slice ga ns.length gc, .int .i64 r] 24)) wr) (fun _ i _ => ns.length - (intOf i).toNat)
  case atStart => exact ⟨0, Nat.zero_le _, rfl, rfl, fun j _ hj => NodeCells.bw (hh.node j hj) hgl (by repeat (first | exact Bw.refl _ | assumption | refine Bw.drew ?_ | refine Bw.drewN ?_ _ | refine Bw.alloc ?_ _ | refine Bw.trans ?_ (by assumption))), fun o => ((bcell (show Bw w ((w.alloc (.cells #[.slice (some ⟨g0, 0, none⟩) ns.length (ns.length + 2), .int .i64 r'] 24)).alloc (.cells #[.slice ga ns.length gc, .int .i64 r] 24)) from (by repeat (first | exact Bw.refl _ | assumption | refine Bw.drew ?_ | refine Bw.drewN ?_ _ | refine Bw.alloc ?_ _ | refine Bw.trans ?_ (by assumption))))).2 g0 o hgl).trans (hh.free o), Kp.refl _ _⟩
  case round =>
    obtain ⟨k, hk, rfl, rfl, hcs, hfr, hK⟩ := hrel
    have Hcs := hide hcs
    clear hcs
    have hkc := hK.cell
    have hks : w.heap.size + 1 < wr.heap.size := by have := hK.size; simp at this; omega
    have e1 : wr.cell? ⟨w.heap.size, 0, none⟩ = some (.slice (some ⟨g0, 0, none⟩) ns.length (ns.length + 2)) := (hkc _ _ (by simp; omega) (by omega)).trans (by simp)
    have e2 : wr.cell? ⟨w.heap.size + 1, 0, none⟩ = some (.slice ga ns.length gc) := (hkc _ _ (by simp) (by omega)).trans (by simp)
    by_cases hlt : k < ns.length
    · obtain ⟨b, off, rfl, hb, hc⟩ := hn k hlt
      have hb1 := hB0.size
      have hcw : ∀ o, wr.cell? ⟨b, o, none⟩ = w0.cell? ⟨b, o, none⟩ := fun o => (hkc b o (by simp; omega) (by omega)).trans (((bcell (show Bw w ((w.alloc (.cells #[.slice (some ⟨g0, 0, none⟩) ns.length (ns.length + 2), .int .i64 r'] 24)).alloc (.cells #[.slice (some ⟨b, off, none⟩) ns.length gc, .int .i64 r] 24)) from (by repeat (first | exact Bw.refl _ | assumption | refine Bw.drew ?_ | refine Bw.drewN ?_ _ | refine Bw.alloc ?_ _ | refine Bw.trans ?_ (by assumption))))).1 b o (by omega)).trans ((bcell hB0).1 b o hb))
      obtain ⟨c0, c1, c2, c3, c4⟩ := hc k hlt
      clear hc
      rw [← hcw] at c0 c1 c2 c3 c4
      obtain ⟨d0, d1, d2, d3, d4⟩ := (unhide Hcs) k (Nat.le_refl _) hlt
      have hj1 : (0 : Int) ≤ (k : Int) := by omega
      have hj2 : (k : Int) < (ns.length : Int) := by omega
      clear hkc hcw
      go_wp2_with fail
      go_quiet (fail)
      go_wp2_with fail
      go_roundw
      case rel => exact ⟨k + 1, by omega, by go_num, rfl, fun j hj hjl => NodeCells.after ((unhide Hcs) j (by omega) hjl) hj, fun o => by simp [hfr], (((((hK.drewN nq).setCell _).setCell _).setCell _).setCell _).setCell _⟩
      case measure => simp [intOf]; omega
    · go_wp2_with fail
      go_ret
      exact ⟨rfl, (Kp.bw (show Bw w ((w.alloc (.cells #[.slice (some ⟨g0, 0, none⟩) ns.length (ns.length + 2), .int .i64 r'] 24)).alloc (.cells #[.slice ga ns.length gc, .int .i64 r] 24)) from (by repeat (first | exact Bw.refl _ | assumption | refine Bw.drew ?_ | refine Bw.drewN ?_ _ | refine Bw.alloc ?_ _ | refine Bw.trans ?_ (by assumption))))).trans hK⟩
end Go.Proofs.YtfemleimkbjehaaGreat
namespace Go.Proofs.YtfemleimkbjehaaGreat
set_option linter.unusedVariables false
set_option linter.unusedSimpArgs false
open Go.RowKit

set_option maxHeartbeats 1000000 in
theorem num_any (n : Int) (w : World) : Calls Tryz.prog 16 #[.int .i64 n] w fun e w' => e = .returned (.int .i64 n) ∧ w' = w := by
  go_enter Tryz.func16, Tryz.ntmps16
  go_wp2
  go_ret
  exact ⟨rfl, rfl⟩

theorem alloc_at (w : World) (o : Obj) {g : Nat} (hg : g = w.heap.size) : (w.alloc o).heap[g]? = some o := by subst hg; exact heap_alloc_new w o

def exNs : List Nd := [⟨0, 0, 0, 0, 0⟩, ⟨3, 0, 4, 0, 0⟩, ⟨1, 1, 0, 1, 0⟩, ⟨2, 2, 0, 2, 0⟩, ⟨4, 3, 0, 0, 0⟩, ⟨6, 2, 0, 1, 0⟩, ⟨7, 5, 0, 0, 0⟩]

set_option maxHeartbeats 1000000 in
theorem example_any (w : World) : Calls Tryz.prog 7 #[] w fun e w' => ∃ g, e = .returned (.agg #[.slice (some ⟨g, 0, none⟩) 7 7, .int .i64 3]) ∧ w.heap.size ≤ g ∧ w'.heap[g]? = some (.cells (nodeCells exNs).toArray 46 (0, 0)) ∧ Bw w w' := by
  go_enter Tryz.func7, Tryz.ntmps7
  go_wp2
  refine bodyPost_ret (v := .agg #[.slice (some ⟨w.heap.size + 1, 0, none⟩) 7 7, .int .i64 3]) (by simp [results, Tryz.results7, go_sem]) rfl ⟨w.heap.size + 1, rfl, by omega, ?_, ?_⟩
  · exact (alloc_at _ _ (by simp)).trans rfl
  · exact (by repeat (first | exact Bw.refl _ | assumption | refine Bw.drew ?_ | refine Bw.drewN ?_ _ | refine Bw.alloc ?_ _ | refine Bw.trans ?_ (by assumption)))

theorem nodesAt_of_cells {w : World} {g : Nat} {ns : List Nd} (hg : g < w.heap.size) (h : ∀ j, j < ns.length → NodeCells w g ns j) : NodesAt w (some ⟨g, 0, none⟩) ns :=
  fun _ _ => ⟨g, 0, rfl, hg, fun j hj => by have := h j hj; unfold NodeCells at this; simpa using this⟩
theorem Handed.at {w : World} {g : Nat} {ns : List Nd} (h : Handed w g ns) : NodesAt w (some ⟨g, 0, none⟩) ns := nodesAt_of_cells h.lt h.node
theorem nodeCells_of_block {w : World} {g : Nat} {ns : List Nd} {t : TypeId} (h : w.heap[g]? = some (.cells (nodeCells ns).toArray t (0, 0))) : ∀ j, j < ns.length → NodeCells w g ns j := by
  intro j hj
  refine ⟨cell_of_block h ?_, cell_of_block h ?_, cell_of_block h ?_, cell_of_block h ?_, cell_of_block h ?_⟩
  · have := nodeCells_get ns j hj 0 (by omega); rw [Nat.add_zero] at this; rw [List.getElem?_toArray, this]; rfl
  · rw [List.getElem?_toArray, nodeCells_get ns j hj 1 (by omega)]; rfl
  · rw [List.getElem?_toArray, nodeCells_get ns j hj 2 (by omega)]; rfl
  · rw [List.getElem?_toArray, nodeCells_get ns j hj 3 (by omega)]; rfl
  · rw [List.getElem?_toArray, nodeCells_get ns j hj 4 (by omega)]; rfl
end Go.Proofs.YtfemleimkbjehaaGreat
