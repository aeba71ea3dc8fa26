import Derived.Test.YtfemleimkbjehaaRef6
import Derived.Test.YtfemleimkbjehaaOwn2
namespace Go.Proofs.Ytfemleimkbjehaa
open Go.RowKit

theorem Try.infoNode : (Try.prog.info? 32).map (fun i => (i.zero, i.size, i.bytes)) = some (some (.agg #[.int .i64 0, .int .i64 0, .int .i64 0, .int .i64 0, .int .i64 0]), 5, 40) := by kernel_rfl

def Nd.cells (x : Nd) : List Value := [.int .i64 x.kind, .int .i64 x.a, .int .i64 x.b, .int .i64 x.k, .int .i64 x.m]
def nodeCells (ns : List Nd) : List Value := ns.flatMap Nd.cells
theorem nodeCells_len (ns : List Nd) : (nodeCells ns).length = ns.length * 5 := by
  induction ns with
  | nil => rfl
  | cons x l ih => simp only [nodeCells, List.flatMap_cons, List.length_append] at ih ⊢; rw [ih]; simp [Nd.cells]; omega
theorem ndn_lt {ns : List Nd} {j : Nat} (h : j < ns.length) : ndn ns j = ns[j] := getD_lt _ _ h
theorem nodeCells_get (ns : List Nd) : ∀ (j : Nat), j < ns.length → ∀ f, f < 5 → (nodeCells ns)[j * 5 + f]? = (Nd.cells (ndn ns j))[f]? := by
  induction ns with
  | nil => intro j hj; simp at hj
  | cons x l ih =>
    intro j hj f hf
    cases j with
    | zero =>
      simp only [nodeCells, List.flatMap_cons, Nat.zero_mul, Nat.zero_add]
      rw [List.getElem?_append_left (by simp [Nd.cells]; omega)]
      rfl
    | succ j =>
      simp only [nodeCells, List.flatMap_cons]
      rw [List.getElem?_append_right (by simp [Nd.cells]; omega)]
      have := ih j (by simpa using hj) f hf
      simp only [nodeCells] at this
      rw [show (j + 1) * 5 + f - (Nd.cells x).length = j * 5 + f by simp [Nd.cells]; omega, this]
      rfl
theorem nodeCells_one (ns : List Nd) : ∀ u ∈ nodeCells ns, u.oneCell' = true := by
  intro u hu
  simp only [nodeCells, List.mem_flatMap, Nd.cells] at hu
  obtain ⟨x, _, hu⟩ := hu
  simp at hu
  rcases hu with rfl | rfl | rfl | rfl | rfl <;> rfl
theorem nodeCells_src {w : World} {ns : List Nd} {b off : Nat} (hc : ∀ j, j < ns.length →
    w.cell? ⟨b, off + j * 5, none⟩ = some (.int .i64 (ndn ns j).kind) ∧ w.cell? ⟨b, off + j * 5 + 1, none⟩ = some (.int .i64 (ndn ns j).a) ∧
    w.cell? ⟨b, off + j * 5 + 2, none⟩ = some (.int .i64 (ndn ns j).b) ∧ w.cell? ⟨b, off + j * 5 + 3, none⟩ = some (.int .i64 (ndn ns j).k) ∧
    w.cell? ⟨b, off + j * 5 + 4, none⟩ = some (.int .i64 (ndn ns j).m)) : ∀ p u, (nodeCells ns)[p]? = some u → w.cell? ((⟨b, off, none⟩ : Addr).add p) = some u := by
  intro p u hp
  have hlt : p < ns.length * 5 := by
    by_cases h : p < ns.length * 5
    · exact h
    · rw [List.getElem?_eq_none (by rw [nodeCells_len]; omega)] at hp; cases hp
  obtain ⟨j, f, hf, rfl⟩ : ∃ j f, f < 5 ∧ p = j * 5 + f := ⟨p / 5, p % 5, Nat.mod_lt _ (by omega), by omega⟩
  have hj : j < ns.length := by omega
  rw [nodeCells_get ns j hj f hf] at hp
  obtain ⟨c0, c1, c2, c3, c4⟩ := hc j hj
  refine add_cell ?_
  rw [← Nat.add_assoc]
  match f, hf with
  | 0, _ => simp [Nd.cells] at hp; subst hp; exact c0
  | 1, _ => simp [Nd.cells] at hp; subst hp; exact c1
  | 2, _ => simp [Nd.cells] at hp; subst hp; exact c2
  | 3, _ => simp [Nd.cells] at hp; subst hp; exact c3
  | 4, _ => simp [Nd.cells] at hp; subst hp; exact c4

/-- 'copy' into a row that is known whole, from its head. -/
theorem run_copyN {P : Program} (w : World) (dT sT ty elem : TypeId) (i : TypeInfo) (hu : P.underlying dT = some (.slice elem)) (hi : P.info? elem = some i)
    (g dLen dCap : Nat) (sa : Option Addr) (sLen sCap : Nat) (cur : Array Value) (t : TypeId) (cs : List Value) (hg : w.heap[g]? = some (.cells cur t (0, 0)))
    (hle : sLen ≤ dLen) (hn : cs.length = sLen * i.size) (hsrc : 0 < sLen → ∃ a, sa = some a ∧ ∀ j v, cs[j]? = some v → w.cell? (a.add j) = some v) (hfit : cs.length ≤ cur.size) (h1 : ∀ v ∈ cs, v.oneCell' = true) :
    ∃ w', (Builtin.copy_ #[dT, sT] ty #[.slice (some ⟨g, 0, none⟩) dLen dCap, .slice sa sLen sCap]).run P w = .ok (goInt sLen) w' ∧
      w'.heap[g]? = some (.cells (cs ++ cur.toList.drop cs.length).toArray t (0, 0)) ∧ w.grownBy w' (some g) := by
  have hst := run_storeCells_at P g 0 t cs 0 cur w hg (by simpa using hfit) h1
  simp only [Nat.add_zero, Nat.zero_add, List.take_zero, List.nil_append] at hst
  have hmin : Nat.min sLen dLen = sLen := Nat.min_eq_left hle
  refine ⟨w.setRow g (cs ++ cur.toList.drop cs.length).toArray, ?_, setRow_heap w g cur _ t _ hg, ⟨rfl, rfl, rfl, by simp, fun k _ hk => setRow_other w g k _ (fun e => hk (by simp [e]))⟩⟩
  by_cases h0 : 0 < sLen
  · obtain ⟨a, rfl, hs⟩ := hsrc h0
    have hf := run_firstCells_some (P := P) w i.size sLen a sLen sCap cs hn hs
    simp [Builtin.copy_, run_underlying hu, sizeOf, typeInfo, hi, Builtin.lenOf, hmin, hf, hst]
  · have e0 : sLen = 0 := by omega
    subst e0
    have hc0 : cs = [] := List.eq_nil_of_length_eq_zero (by simpa using hn)
    subst hc0
    simp only [List.nil_append, List.length_nil, List.drop_zero] at hst ⊢
    cases sa with
    | none =>
      simp [Builtin.copy_, run_underlying hu, sizeOf, typeInfo, hi, Builtin.lenOf, Builtin.firstCells, storeCells, setRow_self w g cur t (0, 0) hg]
    | some a =>
      have hf := run_firstCells_some (P := P) w i.size 0 a 0 sCap [] (by simp) (by simp)
      simp [Builtin.copy_, run_underlying hu, sizeOf, typeInfo, hi, Builtin.lenOf, hf, storeCells, setRow_self w g cur t (0, 0) hg]

theorem wpList_copyN {P : Program} {w : World} {ops : Array Oper} {rest : List Oper} {o : Oper} {a : Act} {Q : Exit → Act → World → Prop} (hgd : o.guard = none) (d s : Operand) (dT sT : TypeId)
    (ho : o.op = .call { callee := .builtin .copy, args := #[d, s], argTypes := #[dT, sT] }) (elem : TypeId) (i : TypeInfo) (hu : P.underlying dT = some (.slice elem)) (hi : P.info? elem = some i)
    (g dLen dCap : Nat) (sa : Option Addr) (sLen sCap : Nat) (hd : a.eval d = .slice (some ⟨g, 0, none⟩) dLen dCap) (hs : a.eval s = .slice sa sLen sCap)
    (cur : Array Value) (t : TypeId) (cs : List Value) (hg : w.heap[g]? = some (.cells cur t (0, 0)))
    (hle : sLen ≤ dLen) (hn : cs.length = sLen * i.size) (hsrc : 0 < sLen → ∃ a, sa = some a ∧ ∀ j v, cs[j]? = some v → w.cell? (a.add j) = some v) (hfit : cs.length ≤ cur.size) (h1 : ∀ v ∈ cs, v.oneCell' = true)
    (h : ∀ w', w'.heap[g]? = some (.cells (cs ++ cur.toList.drop cs.length).toArray t (0, 0)) → w.grownBy w' (some g) → wpList P ops Q rest (a.put o.dst (goInt sLen)) w') : wpList P ops Q (o :: rest) a w := by
  obtain ⟨w', hr, h2, h3⟩ := run_copyN (P := P) w dT sT o.type elem i hu hi g dLen dCap sa sLen sCap cur t cs hg hle hn hsrc hfit h1
  refine wpList_plain hgd fun _ hK => ?_
  unfold Oper.wp execOp
  simp only [ho, resolve, invoke, builtin, Sem.run_bind, Sem.run_pure, Result.andThen_ok, List.map_toArray, List.map_cons, List.map_nil, hd, hs, hr]
  exact hK _ _ (h w' h2 h3)
end Go.Proofs.Ytfemleimkbjehaa
