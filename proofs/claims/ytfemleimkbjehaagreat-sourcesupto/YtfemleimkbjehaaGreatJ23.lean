import Derived.Test.YtfemleimkbjehaaGreatJ22
namespace Go.Proofs.YtfemleimkbjehaaGreat
set_option linter.unusedVariables false
set_option linter.unusedSimpArgs false
open Go.RowKit

/-- What a Sink gets at a time, as records. -/
def recsAt (n e s : Nat) (l : List Int) : List Nd := l.map fun v => ⟨n, 0, e, s, v⟩
def srtL (l : List Int) : List Int := l.mergeSort (fun a b => decide (a ≤ b))
def recT (ns : List Nd) (gv : List Gv) (n : Nat) (ts : List (Nat × Nat)) : List Nd := ts.flatMap fun t => recsAt n t.1 t.2 (srtL (valS ns gv t.1 t.2 n))
def recN (ns : List Nd) (gv : List Gv) (R : Nat) : Nat → List Nd
  | 0 => []
  | n + 1 => recN ns gv R n ++ (if (ndn ns n).kind == 7 then recT ns gv n (timesUp R 6) else [])
theorem srt_uniq {r l : List Int} (hp : r.Perm l) (hs : r.Pairwise (· ≤ ·)) : r = srtL l := by
  have h1 : (srtL l).Pairwise (· ≤ ·) := by
    have := List.pairwise_mergeSort (le := fun a b : Int => decide (a ≤ b)) (by intro a b c; simp; omega) (by intro a b; simp; omega) l
    simpa [srtL] using this
  exact List.Perm.eq_of_pairwise (fun a b _ _ h1 h2 => Int.le_antisymm h1 h2) hs h1 (hp.trans (List.mergeSort_perm l _).symm)
theorem recsAt_len (n e s : Nat) (l : List Int) : (recsAt n e s l).length = l.length := by simp [recsAt]
theorem srtL_len (l : List Int) : (srtL l).length = l.length := (List.mergeSort_perm l _).length_eq
theorem recT_app (ns : List Nd) (gv : List Gv) (n : Nat) (a b : List (Nat × Nat)) : recT ns gv n (a ++ b) = recT ns gv n a ++ recT ns gv n b := by simp [recT]
theorem recT_one (ns : List Nd) (gv : List Gv) (n e s : Nat) : recT ns gv n [(e, s)] = recsAt n e s (srtL (valS ns gv e s n)) := by simp [recT]
theorem Good.recT_len {ns : List Nd} {r : Int} {q : List Int} (h : Good ns r q) {gv : List Gv} (hg : GvOk ns gv) {n : Nat} (hn : n < ns.length) : ∀ ts : List (Nat × Nat), (∀ t ∈ ts, t.2 ≤ 3) → (recT ns gv n ts).length ≤ ts.length * 81920 := by
  intro ts
  induction ts with
  | nil => intro _; simp [recT]
  | cons t l ih =>
    intro ht
    have h1 := ih fun x hx => ht x (by simp [hx])
    have h2 := h.val_len hg t.1 (ht t (by simp)) hn
    unfold recT at h1 ⊢
    rw [List.flatMap_cons, List.length_append, recsAt_len, srtL_len, List.length_cons]
    omega
set_option maxRecDepth 100000 in
theorem Good.recN_len {ns : List Nd} {r : Int} {q : List Int} (h : Good ns r q) {gv : List Gv} (hg : GvOk ns gv) {R : Nat} (hR : R ≤ 4) : ∀ n, n ≤ ns.length → (recN ns gv R n).length ≤ n * 1966080 := by
  intro n
  induction n with
  | zero => intro _; simp [recN]
  | succ n ih =>
    intro hn
    have h1 := ih (by omega)
    have h2 := h.recT_len hg (n := n) (by omega) (timesUp R 6) (fun t ht => by have := (timesUp_mem ht).2; omega)
    rw [timesUp_len] at h2
    have h3 : 6 * R * 81920 ≤ 1966080 := by omega
    unfold recN
    rw [List.length_append]
    split
    · omega
    · rw [List.length_nil, Nat.add_zero]; exact Nat.le_trans h1 (Nat.mul_le_mul_right _ (Nat.le_succ n))
theorem take_get {α : Type} {l : List α} {j : Nat} {x : α} (h : l[j]? = some x) : l.take (j + 1) = l.take j ++ [x] := by
  have hj := (List.getElem?_eq_some_iff.1 h).1
  rw [List.take_succ_eq_append_getElem hj, (List.getElem?_eq_some_iff.1 h).2]

def OwnR (W w : World) (v : Value) (xs : List Nd) : Prop := w.ownsRow W.heap.size 77 5 v xs.length (nodeCells xs)
theorem OwnR.nil (W w : World) : OwnR W w (.slice none 0 0) [] := World.ownsRow_nil _ _ _ _
theorem OwnR.bw {W a b : World} {v : Value} {ns : List Nd} (h : OwnR W a v ns) (hb : Bw a b) : OwnR W b v ns := ownsRow_bw h fun g hg => Below.block hb g hg
theorem OwnR.weaken {W V a : World} {v : Value} {ns : List Nd} (h : OwnR W a v ns) (hb : Bw V W) : OwnR V a v ns := ownsRow_weaken h hb.size
theorem OwnR.snoc {W w : World} {v : Value} {ns : List Nd} {x : Nd} (h : w.ownsRow W.heap.size 77 5 v (ns.length + 1) (nodeCells ns ++ x.cells)) : OwnR W w v (ns ++ [x]) := by
  unfold OwnR
  rw [nodeCells_snoc, List.length_append]
  exact h
theorem Own.grown {V w w' : World} {v u : Value} {base n size : Nat} {ty : TypeId} {xs : List Value} {ys : List Int} (h : Own V w u ys) (hown : w.ownsRow base ty size v n xs) (hg : w.grownBy w' v.ownBlock) (h2 : 3 ≠ ty) : Own V w' u ys := ownsRow_grown hown hg h h2
theorem cells5 {w : World} {g : Nat} {x : Nd} (h0 : w.cell? ⟨g, 0, none⟩ = some (.int .i64 x.kind)) (h1 : w.cell? ⟨g, 1, none⟩ = some (.int .i64 x.a)) (h2 : w.cell? ⟨g, 2, none⟩ = some (.int .i64 x.b)) (h3 : w.cell? ⟨g, 3, none⟩ = some (.int .i64 x.k)) (h4 : w.cell? ⟨g, 4, none⟩ = some (.int .i64 x.m)) : ∀ j u, x.cells[j]? = some u → w.cell? ⟨g, j, none⟩ = some u := by
  intro j u hj
  unfold Nd.cells at hj
  match j, hj with
  | 0, hj => simp at hj; subst hj; exact h0
  | 1, hj => simp at hj; subst hj; exact h1
  | 2, hj => simp at hj; subst hj; exact h2
  | 3, hj => simp at hj; subst hj; exact h3
  | 4, hj => simp at hj; subst hj; exact h4
theorem ndCells_one (x : Nd) : ∀ u ∈ x.cells, u.oneCell' = true := fun u hu => nodeCells_one [x] u (by simpa [nodeCells] using hu)

end Go.Proofs.YtfemleimkbjehaaGreat
namespace Go.Proofs.YtfemleimkbjehaaGreat
set_option linter.unusedVariables false
set_option linter.unusedSimpArgs false
open Go.RowKit

/-- May this be given? -/
def givB (ns : List Nd) (x : Gv) : Bool := (isNodeB ns.length x.node && ((ndn ns x.node.toNat).kind == 0)) && (decide (0 ≤ x.epoch) && decide (x.epoch ≤ 5))
def givTo (ns : List Nd) (gv : List Gv) : Nat → Bool
  | 0 => true
  | k + 1 => givTo ns gv k && givB ns (gvn gv k)
def meanE (ns : List Nd) (r : Int) (gv : List Gv) : Int := if checkE ns r != 0 then checkE ns r else if decide (20 < gv.length) then 5 else if givTo ns gv gv.length then 0 else 3
def meanL (ns : List Nd) (r : Int) (gv : List Gv) : List Nd := if meanE ns r gv == 0 then recN ns gv r.toNat ns.length else []
theorem givTo_false {ns : List Nd} {gv : List Gv} {k : Nat} (h : givB ns (gvn gv k) = false) : ∀ n, k < n → givTo ns gv n = false := by
  intro n
  induction n with
  | zero => intro h; omega
  | succ n ih =>
    intro hk
    rw [givTo]
    by_cases e : k = n
    · subst e; rw [h]; simp
    · rw [ih (by omega)]; rfl
theorem givTo_true {ns : List Nd} {gv : List Gv} : ∀ n, (∀ k, k < n → givB ns (gvn gv k) = true) → givTo ns gv n = true := by
  intro n
  induction n with
  | zero => intro _; rfl
  | succ n ih => intro h; rw [givTo, ih fun k hk => h k (by omega), h n (by omega)]; rfl
theorem good_of {ns : List Nd} {r : Int} (h : checkE ns r = 0) : Good ns r (orderB ns) ∧ ∃ R : Nat, r = R ∧ 1 ≤ R ∧ R ≤ 4 := by
  unfold checkE at h
  split at h
  · rename_i hw
    split at h
    · simp at h
    · rename_i hl
      refine ⟨⟨hw, ordTo_ok ns ns.length, order_all hl⟩, r.toNat, ?_⟩
      simp [wfB] at hw
      omega
  · simp at h

set_option maxHeartbeats 1000000 in
theorem isOfKind_any (ns : List Nd) (ga : Option Addr) (gc : Nat) (r n kd : Int) (w : World) (hn : NodesAt w ga ns) (_hgl : ns.length ≤ maxLen) :
    Calls Tryz.prog 111 #[.agg #[.slice ga ns.length gc, .int .i64 r], .int .i64 n, .int .i64 kd] w fun e w' => e = .returned (.bool (isNodeB ns.length n && ((ndn ns n.toNat).kind == kd))) ∧ Bw w w' := by
  cases h1 : isNodeB ns.length n with
  | false =>
    have H1 := hide h1
    clear h1
    go_enter Tryz.func111, Tryz.ntmps111
    go_wp2_with (go_at_call 92; refine (isNode_any _ _ _ _ _ _).mono ?_; rintro e w' ⟨rfl, hbl⟩; rw [unhide H1]; obtain ⟨hcc, hff⟩ := bcell hbl; have hz0 : w.heap.size < w'.heap.size := (by have := hbl.size; (try simp at this); omega))
    go_ret
    exact ⟨ret_bool (by simp), (by repeat (first | exact Bw.refl _ | assumption | refine Bw.drew ?_ | refine Bw.drewN ?_ _ | refine Bw.alloc ?_ _ | refine Bw.trans ?_ (by assumption)))⟩
  | true =>
    have H1 := hide h1
    obtain ⟨b1, b2⟩ := isNodeB_iff.1 h1
    obtain ⟨k, rfl⟩ := Int.eq_ofNat_of_zero_le b1
    have hk : k < ns.length := by omega
    clear h1 b1 b2
    obtain ⟨b, off, rfl, hb, hc⟩ := hn k hk
    have c0 := (hc k hk).1
    clear hc
    rw [Int.toNat_natCast]
    go_enter Tryz.func111, Tryz.ntmps111
    go_wp2_with (go_at_call 92; refine (isNode_any _ _ _ _ _ _).mono ?_; rintro e w' ⟨rfl, hbl⟩; rw [unhide H1]; obtain ⟨hcc, hff⟩ := bcell hbl; have hz0 : w.heap.size < w'.heap.size := (by have := hbl.size; (try simp at this); omega); have hzb : b < w'.heap.size := (by omega))
    go_ret
    exact ⟨ret_bool (by simp), (by repeat (first | exact Bw.refl _ | assumption | refine Bw.drew ?_ | refine Bw.drewN ?_ _ | refine Bw.alloc ?_ _ | refine Bw.trans ?_ (by assumption)))⟩

theorem meanE_check {ns : List Nd} {r : Int} {gv : List Gv} (h : (checkE ns r != 0) = true) : meanE ns r gv = checkE ns r := by unfold meanE; rw [if_pos h]
theorem meanE_room {ns : List Nd} {r : Int} {gv : List Gv} (h : (checkE ns r != 0) = false) (h2 : 20 < gv.length) : meanE ns r gv = 5 := by unfold meanE; rw [if_neg (by rw [h]; decide), if_pos (by simpa using h2)]
theorem meanE_arg {ns : List Nd} {r : Int} {gv : List Gv} (h : (checkE ns r != 0) = false) (h2 : ¬ 20 < gv.length) (h3 : givTo ns gv gv.length = false) : meanE ns r gv = 3 := by unfold meanE; rw [if_neg (by rw [h]; decide), if_neg (by simpa using h2), if_neg (by rw [h3]; decide)]
theorem meanE_ok {ns : List Nd} {r : Int} {gv : List Gv} (h : (checkE ns r != 0) = false) (h2 : ¬ 20 < gv.length) (h3 : givTo ns gv gv.length = true) : meanE ns r gv = 0 := by unfold meanE; rw [if_neg (by rw [h]; decide), if_neg (by simpa using h2), if_pos h3]
theorem meanL_no {ns : List Nd} {r : Int} {gv : List Gv} (h : meanE ns r gv ≠ 0) : meanL ns r gv = [] := by unfold meanL; rw [if_neg (by simpa using h)]
theorem meanL_ok {ns : List Nd} {r : Int} {gv : List Gv} (h : meanE ns r gv = 0) : meanL ns r gv = recN ns gv r.toNat ns.length := by unfold meanL; rw [if_pos (by simp [h])]

/-- What Meaning answers. -/
def MeanOk (w w' : World) (e : Ending) (ns : List Nd) (r : Int) (gv : List Gv) : Prop := ∃ v, e = .returned (.tuple #[v, .int .i64 (meanE ns r gv)]) ∧ OwnR w w' v (meanL ns r gv) ∧ Bw w w'
theorem MeanOk.err {w w' : World} {ns : List Nd} {r c : Int} {gv : List Gv} (h : meanE ns r gv = c) (hc : c ≠ 0) (hb : Bw w w') : MeanOk w w' (.returned (.tuple #[.slice none 0 0, .int .i64 c])) ns r gv :=
  ⟨_, by rw [h], by rw [meanL_no (by rw [h]; exact hc)]; exact OwnR.nil _ _, hb⟩

end Go.Proofs.YtfemleimkbjehaaGreat
namespace Go.Proofs.YtfemleimkbjehaaGreat
set_option linter.unusedVariables false
set_option linter.unusedSimpArgs false
open Go.RowKit

set_option maxRecDepth 100000 in
set_option maxHeartbeats 2000000 in
theorem pbetween_any (L : Nat) (D : Nat → Nat → Int) (n y : Nat) (da : Option Addr) (dc : Nat) (w : World) (hD : TabAt w da L L D) (hn : n < L) (hy : y < L) (hL : L ≤ 8) :
    Calls Tryz.prog 126 #[.agg #[.slice da L dc], .int .i64 (n : Int), .int .i64 (y : Int)] w fun en w' => en = .returned (.int .i64 (D n y)) ∧ Bw w w' := by
  obtain ⟨tb, toff, rfl, htb, tpb, tpo, tpc, td0, htpb, tdc⟩ := hD n hn
  have td1 := tdc y hy
  clear tdc
  have hj1 : (n : Int) < (L : Int) := by omega
  have hj2 : (y : Int) < (L : Int) := by omega
  have d1 : decide ((n : Int) < 0) = false := by simp
  have d2 : decide ((L : Int) ≤ (n : Int)) = false := by simp; omega
  have d3 : decide ((y : Int) < 0) = false := by simp
  have d4 : decide ((L : Int) ≤ (y : Int)) = false := by simp; omega
  go_enter Tryz.func126, Tryz.ntmps126
  go_wp2_with fail
  go_ret
  exact ⟨rfl, (by repeat (first | exact Bw.refl _ | assumption | refine Bw.drew ?_ | refine Bw.drewN ?_ _ | refine Bw.alloc ?_ _ | refine Bw.trans ?_ (by assumption)))⟩

set_option maxRecDepth 100000 in
set_option maxHeartbeats 4000000 in
theorem pfirst_any {ns : List Nd} {D : Nat → Nat → Int} {na da : Option Addr} {nc dc : Nat} (n e s y : Nat) (r : Int) (out : Bool) (ct : Int) (w : World) (hnd : NodesAt w na ns) (hdt : TabAt w da ns.length ns.length D) (h8 : ns.length ≤ 8) (hn : n < ns.length) (hy : y < ns.length) (hs : s < 4) (hD : D n y ≤ 1000) (hD1 : -1 ≤ D n y) :
    Calls Tryz.prog 117 #[.agg #[.slice na ns.length nc, .int .i64 r], .agg #[.slice da ns.length dc], .agg #[.int .i64 (n : Int), .bool out, .int .i64 (e : Int), .int .i64 (s : Int), .int .i64 ct], .int .i64 (y : Int)] w fun en w' => en = .returned (.int .i64 (comesI ns D n out s y)) ∧ Bw w w' := by
  have Hb := hide (fun (w' : World) (hB : Bw w w') => pbetween_any ns.length D n y da dc w' (hdt.below hB) hn hy h8)
  have Hk : Hid (∀ (w' : World), Bw w w' → Calls Tryz.prog 111 #[.agg #[.slice na ns.length nc, .int .i64 r], .int .i64 (n : Int), .int .i64 4] w' fun e w'' => e = .returned (.bool ((ndn ns n).kind == 4)) ∧ Bw w' w'') := hide (fun w' hB => by
    have := isOfKind_any ns na nc r (n : Int) 4 w' (hnd.below hB) (by unfold maxLen; omega)
    rw [show isNodeB ns.length (n : Int) = true from isNodeB_iff.2 ⟨by omega, by omega⟩, Int.toNat_natCast, Bool.true_and] at this
    exact this)
  have hny : ((n : Int) == (y : Int)) = (n == y) := by rw [Bool.eq_iff_iff]; simp; omega
  have Hc : Hid (comesI ns D n out s y = if !out && (n == y) then (s : Int) else if decide (D n y < 0) then -1 else if !out && ((ndn ns n).kind == 4) then s + (D n y + 1) else s + D n y) := hide rfl
  generalize ((ndn ns n).kind == 4) = kb at *
  by_cases hd : D n y < 0
  · have hdd : decide (D n y < 0) = true := by simpa using hd
    have hdm : D n y = -1 := by omega
    rw [hdm] at Hb
    cases out with
    | true =>
      have He : Hid (comesI ns D n true s y = -1) := hide (by rw [unhide Hc, hdd]; rfl)
      clear Hc hd hdm hdd
      go_enter Tryz.func117, Tryz.ntmps117
      go_wp2_with (go_at_call 126; refine ((unhide Hb) _ (by repeat (first | exact Bw.refl _ | assumption | refine Bw.drew ?_ | refine Bw.drewN ?_ _ | refine Bw.alloc ?_ _ | refine Bw.trans ?_ (by assumption)))).mono ?_; rintro en w' ⟨rfl, hbl⟩)
      go_ret
      exact ⟨ret_int (unhide He).symm, (by repeat (first | exact Bw.refl _ | assumption | refine Bw.drew ?_ | refine Bw.drewN ?_ _ | refine Bw.alloc ?_ _ | refine Bw.trans ?_ (by assumption)))⟩
    | false =>
      cases hxy : (n == y) with
      | true =>
        rw [hxy] at hny
        have He : Hid (comesI ns D n false s y = s) := hide (by rw [unhide Hc, hxy]; rfl)
        clear Hc hd hdm hdd
        go_enter Tryz.func117, Tryz.ntmps117
        go_wp2_with fail
        go_ret
        exact ⟨ret_int (unhide He).symm, (by repeat (first | exact Bw.refl _ | assumption | refine Bw.drew ?_ | refine Bw.drewN ?_ _ | refine Bw.alloc ?_ _ | refine Bw.trans ?_ (by assumption)))⟩
      | false =>
        rw [hxy] at hny
        have He : Hid (comesI ns D n false s y = -1) := hide (by rw [unhide Hc, hxy, hdd]; rfl)
        clear Hc hd hdm hdd
        go_enter Tryz.func117, Tryz.ntmps117
        go_wp2_with (go_at_call 126; refine ((unhide Hb) _ (by repeat (first | exact Bw.refl _ | assumption | refine Bw.drew ?_ | refine Bw.drewN ?_ _ | refine Bw.alloc ?_ _ | refine Bw.trans ?_ (by assumption)))).mono ?_; rintro en w' ⟨rfl, hbl⟩)
        go_ret
        exact ⟨ret_int (unhide He).symm, (by repeat (first | exact Bw.refl _ | assumption | refine Bw.drew ?_ | refine Bw.drewN ?_ _ | refine Bw.alloc ?_ _ | refine Bw.trans ?_ (by assumption)))⟩
  · have hdd : decide (D n y < 0) = false := by simpa using hd
    have hd0 : 0 ≤ D n y := by omega
    have hdm : (D n y == -1) = false := by simp; omega
    cases out with
    | true =>
      have He : Hid (comesI ns D n true s y = s + D n y) := hide (by rw [unhide Hc, hdd]; rfl)
      clear Hc hd hdd
      generalize D n y = dd at *
      go_enter Tryz.func117, Tryz.ntmps117
      go_wp2_with (go_at_call 126; refine ((unhide Hb) _ (by repeat (first | exact Bw.refl _ | assumption | refine Bw.drew ?_ | refine Bw.drewN ?_ _ | refine Bw.alloc ?_ _ | refine Bw.trans ?_ (by assumption)))).mono ?_; rintro en w' ⟨rfl, hbl⟩; obtain ⟨hcc, hff⟩ := bcell hbl; have hz0 : w.heap.size < w'.heap.size := (by have := hbl.size; (try simp at this); omega); have hz1 : w.heap.size + 1 < w'.heap.size := (by have := hbl.size; (try simp at this); omega); have hz2 : w.heap.size + 2 < w'.heap.size := (by have := hbl.size; (try simp at this); omega))
      go_ret
      exact ⟨ret_int (unhide He).symm, (by repeat (first | exact Bw.refl _ | assumption | refine Bw.drew ?_ | refine Bw.drewN ?_ _ | refine Bw.alloc ?_ _ | refine Bw.trans ?_ (by assumption)))⟩
    | false =>
      cases hxy : (n == y) with
      | true =>
        rw [hxy] at hny
        have He : Hid (comesI ns D n false s y = s) := hide (by rw [unhide Hc, hxy]; rfl)
        clear Hc hd hdd
        go_enter Tryz.func117, Tryz.ntmps117
        go_wp2_with fail
        go_ret
        exact ⟨ret_int (unhide He).symm, (by repeat (first | exact Bw.refl _ | assumption | refine Bw.drew ?_ | refine Bw.drewN ?_ _ | refine Bw.alloc ?_ _ | refine Bw.trans ?_ (by assumption)))⟩
      | false =>
        rw [hxy] at hny
        cases kb with
        | true =>
          have He : Hid (comesI ns D n false s y = s + (D n y + 1)) := hide (by rw [unhide Hc, hxy, hdd]; rfl)
          clear Hc hd hdd
          generalize D n y = dd at *
          go_enter Tryz.func117, Tryz.ntmps117
          go_wp2_with (first | (go_at_call 126; refine ((unhide Hb) _ (by repeat (first | exact Bw.refl _ | assumption | refine Bw.drew ?_ | refine Bw.drewN ?_ _ | refine Bw.alloc ?_ _ | refine Bw.trans ?_ (by assumption)))).mono ?_; rintro en w' ⟨rfl, hbl⟩; obtain ⟨hcc, hff⟩ := bcell hbl; have hz0 : w.heap.size < w'.heap.size := (by have := hbl.size; (try simp at this); omega); have hz1 : w.heap.size + 1 < w'.heap.size := (by have := hbl.size; (try simp at this); omega); have hz2 : w.heap.size + 2 < w'.heap.size := (by have := hbl.size; (try simp at this); omega)) | (go_at_call 111; refine ((unhide Hk) _ (by repeat (first | exact Bw.refl _ | assumption | refine Bw.drew ?_ | refine Bw.drewN ?_ _ | refine Bw.alloc ?_ _ | refine Bw.trans ?_ (by assumption)))).mono ?_; rintro en w2 ⟨rfl, hbl2⟩; obtain ⟨hcc2, hff2⟩ := bcell hbl2))
          go_ret
          exact ⟨ret_int (unhide He).symm, (by repeat (first | exact Bw.refl _ | assumption | refine Bw.drew ?_ | refine Bw.drewN ?_ _ | refine Bw.alloc ?_ _ | refine Bw.trans ?_ (by assumption)))⟩
        | false =>
          have He : Hid (comesI ns D n false s y = s + D n y) := hide (by rw [unhide Hc, hxy, hdd]; rfl)
          clear Hc hd hdd
          generalize D n y = dd at *
          go_enter Tryz.func117, Tryz.ntmps117
          go_wp2_with (first | (go_at_call 126; refine ((unhide Hb) _ (by repeat (first | exact Bw.refl _ | assumption | refine Bw.drew ?_ | refine Bw.drewN ?_ _ | refine Bw.alloc ?_ _ | refine Bw.trans ?_ (by assumption)))).mono ?_; rintro en w' ⟨rfl, hbl⟩; obtain ⟨hcc, hff⟩ := bcell hbl; have hz0 : w.heap.size < w'.heap.size := (by have := hbl.size; (try simp at this); omega); have hz1 : w.heap.size + 1 < w'.heap.size := (by have := hbl.size; (try simp at this); omega); have hz2 : w.heap.size + 2 < w'.heap.size := (by have := hbl.size; (try simp at this); omega)) | (go_at_call 111; refine ((unhide Hk) _ (by repeat (first | exact Bw.refl _ | assumption | refine Bw.drew ?_ | refine Bw.drewN ?_ _ | refine Bw.alloc ?_ _ | refine Bw.trans ?_ (by assumption)))).mono ?_; rintro en w2 ⟨rfl, hbl2⟩; obtain ⟨hcc2, hff2⟩ := bcell hbl2))
          go_ret
          exact ⟨ret_int (unhide He).symm, (by repeat (first | exact Bw.refl _ | assumption | refine Bw.drew ?_ | refine Bw.drewN ?_ _ | refine Bw.alloc ?_ _ | refine Bw.trans ?_ (by assumption)))⟩
end Go.Proofs.YtfemleimkbjehaaGreat
