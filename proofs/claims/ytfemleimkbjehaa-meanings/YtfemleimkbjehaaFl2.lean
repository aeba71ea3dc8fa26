import Derived.Test.YtfemleimkbjehaaFl1
import Derived.Test.YtfemleimkbjehaaOwn5
import Derived.Deep.RegionLaw
namespace Go.Proofs.Ytfemleimkbjehaa
open Go.RowKit

theorem run_appA (w : World) (res : TypeId) (W : World) (v : Value) (xs : List Int) (hown : Own W w v xs) (ad : Option Addr) (c : Nat) (ys : List Int) (hy : IntsAt w ad ys) (hlen : xs.length + ys.length ≤ 1000000) (hB : Bw W w) :
    ∃ v' w', (Builtin.append_ #[26, 26] res #[v, .slice ad ys.length c]).run Try.prog w = .ok v' w' ∧ Own W w' v' (xs ++ ys) ∧ Bw W w' := by
  obtain ⟨i0, hi, hz0, hz1, hz2⟩ := info_parts Try.infoInt
  by_cases hpos : 0 < ys.length
  · obtain ⟨b, off, rfl, hb, hc⟩ := hy 0 hpos
    obtain ⟨v', w', hr, h2, h3, _⟩ := run_append_keep (P := Try.prog) w W.heap.size 26 res 3 i0 (.int .i64 0) 1 8 Try.underlying26 hi hz0 hz1 hz2 rfl (by decide) v xs.length (xs.map (Value.int .i64)) hown ⟨b, off, none⟩ ys.length c (ys.map (Value.int .i64)) hpos (by simp)
      (ints_src hc) (by intro u hu; simp at hu; obtain ⟨n, _, rfl⟩ := hu; rfl) (by unfold maxLen; omega) (by omega) hB.size
    exact ⟨v', w', hr, by unfold Own; simpa using h2, Below.grown hB h3 hB.size fun k hk => (World.ownsRow.lt hown k hk).1⟩
  · have h0 : ys = [] := List.eq_nil_of_length_eq_zero (by omega)
    subst h0
    obtain ⟨va, vc, rfl, hvc⟩ := hown.slice
    exact ⟨_, w, run_append_nothing (P := Try.prog) w 26 26 res 3 i0 Try.underlying26 hi va xs.length vc hvc (.slice ad 0 c) (by rw [hz1]; exact src_none ad c w), by rw [List.append_nil]; exact hown, hB⟩

/-- 'append(v, ys...)' as a step of a region that draws its order. -/
theorem stepA {ops : Array Oper} {o : Oper} {a : Act} {w : World} {K : Act → World → Prop} {Q : Exit → Act → World → Prop} {E : Prop} (hgd : o.guard = none) (s x : Operand)
    (ho : o.op = .call { callee := .builtin .append, args := #[s, x], argTypes := #[26, 26] }) (W : World) (v : Value) (xs : List Int) (hs : a.eval s = v) (hown : Own W w v xs)
    (ad : Option Addr) (c : Nat) (ys : List Int) (hx : a.eval x = .slice ad ys.length c) (hy : IntsAt w ad ys) (hlen : xs.length + ys.length ≤ 1000000) (hB : Bw W w)
    (h : ∀ v' w', Own W w' v' (xs ++ ys) → Bw W w' → K (a.put o.dst v') w') :
    if Region.wanted o (yielded ops a.tmps) = true then Oper.wp Try.prog o a w K Q else E := by
  obtain ⟨v', w', hr, h2, h3⟩ := run_appA w o.type W v xs hown ad c ys hy hlen hB
  have hw : Region.wanted o (yielded ops a.tmps) = true := by simp [Region.wanted, hgd]
  rw [if_pos hw]
  unfold Oper.wp
  simp only [execOp, ho, resolve, invoke, builtin, Sem.run_bind, Sem.run_pure, Result.andThen_ok, List.map_toArray, List.map_cons, List.map_nil, hs, hx, hr]
  exact h v' w' h2 h3

/-- The flow: what is put out by node, epoch and round, in memory. -/
structure FlowAt (W w : World) (fb ob L R oc : Nat) (tb tc : Nat → Nat) (rb : Nat → Nat → Nat) (F : Nat → Nat → Nat → List Int) : Prop where
  root : w.heap[fb]? = some (.cells #[.slice (some ⟨ob, 0, none⟩) L oc] 179 (0, 0))
  out : ∃ arr : Array Value, w.heap[ob]? = some (.cells arr 108 (0, 0)) ∧ ∀ n, n < L → arr[n]? = some (.slice (some ⟨tb n, 0, none⟩) 6 (tc n))
  times : ∀ n, n < L → ∃ arr : Array Value, w.heap[tb n]? = some (.cells arr 54 (0, 0)) ∧ ∀ e, e < 6 → arr[e]? = some (.slice (some ⟨rb n e, 0, none⟩) R R)
  rows : ∀ n, n < L → ∀ e, e < 6 → RowAt W w (rb n e) R (fun s => F e s n)
  inj : ∀ n e n' e', n < L → e < 6 → n' < L → e' < 6 → rb n e = rb n' e' → n = n' ∧ e = e'
  low : ∀ n, n < L → ∀ e, e < 6 → W.heap.size ≤ rb n e

theorem FlowAt.bw {W w w' : World} {fb ob L R oc : Nat} {tb tc : Nat → Nat} {rb : Nat → Nat → Nat} {F : Nat → Nat → Nat → List Int} (h : FlowAt W w fb ob L R oc tb tc rb F) (hb : Bw w w') : FlowAt W w' fb ob L R oc tb tc rb F := by
  have key : ∀ g o, w.heap[g]? = some o → w'.heap[g]? = some o := fun g o hg => (Below.block hb g (Array.getElem?_eq_some_iff.1 hg).1).trans hg
  refine ⟨key _ _ h.root, ?_, fun n hn => ?_, fun n hn e he => (h.rows n hn e he).bw hb, h.inj, h.low⟩
  · obtain ⟨arr, h1, h2⟩ := h.out; exact ⟨arr, key _ _ h1, h2⟩
  · obtain ⟨arr, h1, h2⟩ := h.times n hn; exact ⟨arr, key _ _ h1, h2⟩
/-- The cells that lead to a list of the flow. -/
theorem FlowAt.get {W w : World} {fb ob L R oc : Nat} {tb tc : Nat → Nat} {rb : Nat → Nat → Nat} {F : Nat → Nat → Nat → List Int} (h : FlowAt W w fb ob L R oc tb tc rb F) {n e s : Nat} (hn : n < L) (he : e < 6) (hs : s < R) :
    w.cell? ⟨fb, 0, none⟩ = some (.slice (some ⟨ob, 0, none⟩) L oc) ∧ w.cell? ⟨ob, n, none⟩ = some (.slice (some ⟨tb n, 0, none⟩) 6 (tc n)) ∧ w.cell? ⟨tb n, e, none⟩ = some (.slice (some ⟨rb n e, 0, none⟩) R R) ∧
      (∃ la lc, w.cell? ⟨rb n e, s, none⟩ = some (.slice la (F e s n).length lc) ∧ Own W w (.slice la (F e s n).length lc) (F e s n) ∧ (F e s n).length ≤ lc) ∧ fb < w.heap.size ∧ ob < w.heap.size ∧ tb n < w.heap.size ∧ rb n e < w.heap.size := by
  obtain ⟨a1, o1, o2⟩ := h.out
  obtain ⟨a2, t1, t2⟩ := h.times n hn
  have hr := h.rows n hn e he
  refine ⟨cell_of_block h.root rfl, cell_of_block o1 (o2 n hn), cell_of_block t1 (t2 e he), hr.get hs, ?_, ?_, ?_, hr.lt⟩
  · exact (Array.getElem?_eq_some_iff.1 h.root).1
  · exact (Array.getElem?_eq_some_iff.1 o1).1
  · exact (Array.getElem?_eq_some_iff.1 t1).1
def updF (F : Nat → Nat → Nat → List Int) (e s n : Nat) (l : List Int) : Nat → Nat → Nat → List Int := fun e' s' n' => if e' = e ∧ s' = s ∧ n' = n then l else F e' s' n'
theorem updF_eq (F : Nat → Nat → Nat → List Int) (e s n : Nat) (l : List Int) : updF F e s n l e s n = l := by simp [updF]
theorem updF_ne (F : Nat → Nat → Nat → List Int) {e s n e' s' n' : Nat} (l : List Int) (h : ¬ (e' = e ∧ s' = s ∧ n' = n)) : updF F e s n l e' s' n' = F e' s' n' := by simp [updF, h]
theorem FlowAt.set {W w : World} {fb ob L R oc : Nat} {tb tc : Nat → Nat} {rb : Nat → Nat → Nat} {F : Nat → Nat → Nat → List Int} (h : FlowAt W w fb ob L R oc tb tc rb F) {n e s : Nat} (hn : n < L) (he : e < 6) {v : Value} {l : List Int} (ho : Own W w v l) :
    FlowAt W (w.setCell ⟨rb n e, s, none⟩ v) fb ob L R oc tb tc rb (updF F e s n l) := by
  have hr := h.rows n hn e he
  have key : ∀ (g : Nat) (arr : Array Value) (t : TypeId), w.heap[g]? = some (Obj.cells arr t (0, 0)) → t ≠ 26 → (w.setCell ⟨rb n e, s, none⟩ v).heap[g]? = some (Obj.cells arr t (0, 0)) := by
    intro g arr t hg ht
    refine (Below.heap_setCell w ⟨rb n e, s, none⟩ v g ?_).trans hg
    intro eq
    simp only at eq
    subst eq
    obtain ⟨a2, r1, _⟩ := hr
    rw [r1] at hg
    simp only [Option.some.injEq, Obj.cells.injEq] at hg
    exact ht hg.2.1.symm
  refine ⟨key _ _ _ h.root (by decide), ?_, fun m hm => ?_, fun m hm e' he' => ?_, h.inj, h.low⟩
  · obtain ⟨arr, h1, h2⟩ := h.out; exact ⟨arr, key _ _ _ h1 (by decide), h2⟩
  · obtain ⟨arr, h1, h2⟩ := h.times m hm; exact ⟨arr, key _ _ _ h1 (by decide), h2⟩
  · by_cases e1 : m = n ∧ e' = e
    · obtain ⟨rfl, rfl⟩ := e1
      have := hr.set (j := s) ho
      refine (?_ : (fun s' => updF F e' s m l e' s' m) = upd (fun s => F e' s m) s l) ▸ this
      funext s'
      by_cases e2 : s' = s
      · subst e2; rw [updF_eq, upd_eq]
      · rw [updF_ne _ _ (by omega), upd_ne _ _ e2]
    · have hne : rb m e' ≠ rb n e := fun eq => e1 (h.inj m e' n e hm he' hn he eq)
      have := (h.rows m hm e' he').setOther (k := s) (u := v) hr hne
      refine (?_ : (fun s' => updF F e s n l e' s' m) = fun s' => F e' s' m) ▸ this
      funext s'
      rw [updF_ne _ _ (by omega)]
theorem FlowAt.frozen {W w : World} {fb ob L R oc : Nat} {tb tc : Nat → Nat} {rb : Nat → Nat → Nat} {F : Nat → Nat → Nat → List Int} (h : FlowAt W w fb ob L R oc tb tc rb F) {n e : Nat} (hn : n < L) (he : e < 6) (s : Nat) : w.frozen? ⟨rb n e, s, none⟩ = false := (h.rows n hn e he).fr s
theorem FlowAt.congr {W w : World} {fb ob L R oc : Nat} {tb tc : Nat → Nat} {rb : Nat → Nat → Nat} {F G : Nat → Nat → Nat → List Int} (h : FlowAt W w fb ob L R oc tb tc rb F) (e : F = G) : FlowAt W w fb ob L R oc tb tc rb G := e ▸ h

/-- What comes to a node out of the first i of its inputs. -/
def comeTo (x : Nd) (cur : Nat → List Int) (i : Nat) : List Int := ((inputsL x).take i).flatMap fun z => cur z.toNat
theorem comeTo_succ {x : Nd} {cur : Nat → List Int} {i a : Nat} (h : i < (inputsL x).length) (e : nth (inputsL x) i = a) : comeTo x cur (i + 1) = comeTo x cur i ++ cur a := by
  unfold comeTo
  rw [take_nth h, List.flatMap_append, e]
  simp
theorem comeTo_all (x : Nd) (cur : Nat → List Int) : comeTo x cur (inputsL x).length = comeL x cur := by unfold comeTo comeL; rw [List.take_length]
theorem inputsL_two (x : Nd) : (inputsL x).length ≤ 2 := by unfold inputsL; split; simp; split <;> simp
theorem comeTo_len {x : Nd} {cur : Nat → List Int} (h : ∀ z ∈ inputsL x, (cur z.toNat).length ≤ 100000) : ∀ i, i ≤ (inputsL x).length → (comeTo x cur i).length ≤ i * 100000 := by
  intro i
  induction i with
  | zero => intro _; simp [comeTo]
  | succ i ih =>
    intro hi
    have h1 := ih (by omega)
    have h2 := h (nth (inputsL x) i) (nth_mem (by omega))
    unfold comeTo at h1 ⊢
    rw [take_nth (by omega), List.flatMap_append, List.length_append]
    simp only [List.flatMap_cons, List.flatMap_nil, List.append_nil]
    omega

set_option maxRecDepth 100000 in
set_option maxHeartbeats 2000000 in
theorem come_any (ns : List Nd) (ga : Option Addr) (gc R : Nat) (r : Int) (W w : World) (fb ob oc : Nat) (tb tc : Nat → Nat) (rb : Nat → Nat → Nat) (F : Nat → Nat → Nat → List Int) (n e s : Nat) (hn : NodesAt w ga ns) (_hl : ns.length ≤ 8) (hF : FlowAt W w fb ob ns.length R oc tb tc rb F) (hnl : n < ns.length) (he : e < 6) (hs : s < R) (_hR : R ≤ 4)
    (hin : ∀ z ∈ inputsL (ndn ns n), ∃ a : Nat, z = a ∧ a < ns.length ∧ (F e s a).length ≤ 100000) :
    Calls Try.prog 78 #[.pointer (some ⟨fb, 0, none⟩), .agg #[.slice ga ns.length gc, .int .i64 r], .int .i64 (n : Int), .int .i64 (e : Int), .int .i64 (s : Int)] w fun en w' => ∃ v, en = .returned v ∧ Own w w' v (comeL (ndn ns n) (fun a => F e s a)) ∧ Bw w w' := by
  obtain ⟨b, off, rfl, hb, hc⟩ := hn n hnl
  obtain ⟨c0, c1, c2, c3, c4⟩ := hc n hnl
  clear hc
  have Hall := hide (comeTo_all (ndn ns n) (fun a => F e s a))
  have Hsu := hide (fun i a h e1 => @comeTo_succ (ndn ns n) (fun a => F e s a) i a h e1)
  have hil := inputsL_two (ndn ns n)
  have Hlen := hide (comeTo_len (x := ndn ns n) (cur := fun a => F e s a) (fun z hz => by obtain ⟨a, rfl, _, h⟩ := hin z hz; exact h))
  rw [← unhide Hall]
  have hinp := inputs_any (ndn ns n)
  generalize hx : ndn ns n = x at *
  have Hinp := hide hinp
  clear hinp hx
  unfold Nd.val at Hinp
  go_enter Try.func78, Try.ntmps78
  go_wp2_with fail
  refine ((unhide Hinp) _).mono ?_
  rintro en w1 ⟨v, rfl, ho, hB1⟩
  obtain ⟨ia, ic, rfl, hic⟩ := ho.slice
  have hBw1 : Bw w w1 := (by repeat (first | exact Bw.refl _ | assumption | refine Bw.drew ?_ | refine Bw.drewN ?_ _ | refine Bw.alloc ?_ _ | refine Bw.trans ?_ (by assumption)))
  have hii := ho.ints.1
  clear ho hB1
  go_wp2_with fail
  go_loopw [11, 13] (fun v i wr => ∃ k : Nat, k ≤ (inputsL x).length ∧ i = .int .i64 k ∧ Own w1 wr v (comeTo x (fun a => F e s a) k) ∧ Bw w1 wr) (fun _ i _ => (inputsL x).length - (intOf i).toNat)
  case atStart => exact ⟨0, Nat.zero_le _, rfl, by rw [show comeTo x (fun a => F e s a) 0 = [] from rfl]; exact Own.nil _ _, Bw.refl _⟩
  case round =>
    obtain ⟨k, hk, rfl, hown, hB⟩ := hrel
    have Hk := hide ((unhide Hlen) k hk)
    by_cases hlt : k < (inputsL x).length
    · obtain ⟨a, ea, ha, hal⟩ := hin (nth (inputsL x) k) (nth_mem hlt)
      obtain ⟨b2, off2, rfl, hb2, hc2⟩ := (hii.below hB) k hlt
      have d0 := hc2 k hlt
      rw [ea] at d0
      have Hs := hide ((unhide Hsu) k a hlt ea)
      clear hc2 ea
      obtain ⟨f0, f1, f2, ⟨la, lc, f3, fo, flc⟩, g0, g1, g2, g3⟩ := (hF.bw (hBw1.trans hB)).get ha he hs
      have hj1 : (0 : Int) ≤ (k : Int) := by omega
      have hj2 : (k : Int) < ((inputsL x).length : Int) := by omega
      have hj3 : (0 : Int) ≤ (a : Int) := by omega
      have hj4 : (a : Int) < (ns.length : Int) := by omega
      have hj5 : (0 : Int) ≤ (e : Int) := by omega
      have hj6 : (e : Int) < 6 := by omega
      have hj7 : (0 : Int) ≤ (s : Int) := by omega
      have hj8 : (s : Int) < (R : Int) := by omega
      have Hfl : Hid ((comeTo x (fun a => F e s a) k).length + (F e s a).length ≤ 1000000) := hide (by have := unhide Hk; omega)
      go_wp2_with fail
      go_region_law (refine stepA rfl _ _ rfl w1 _ (comeTo x (fun a => F e s a) k) rfl (hown.bw (by repeat (first | exact Bw.refl _ | assumption | refine Bw.drew ?_ | refine Bw.drewN ?_ _ | refine Bw.alloc ?_ _ | refine Bw.trans ?_ (by assumption)))) _ _ (F e s a) rfl (fo.ints.1.below (by repeat (first | exact Bw.refl _ | assumption | refine Bw.drew ?_ | refine Bw.drewN ?_ _ | refine Bw.alloc ?_ _ | refine Bw.trans ?_ (by assumption)))) (unhide Hfl) (by repeat (first | exact Bw.refl _ | assumption | refine Bw.drew ?_ | refine Bw.drewN ?_ _ | refine Bw.alloc ?_ _ | refine Bw.trans ?_ (by assumption))) ?_; intro v' w2 ho2 hB2)
      all_goals go_wp2_with fail
      all_goals go_roundw
      all_goals first | exact ⟨k + 1, by omega, by go_num, by rw [unhide Hs]; exact ho2, hB2⟩ | (simp [intOf]; omega)
    · have hkk : k = (inputsL x).length := by omega
      subst hkk
      go_wp2_with fail
      go_ret
      exact ⟨_, rfl, hown.weaken hBw1, hBw1.trans hB⟩
end Go.Proofs.Ytfemleimkbjehaa
