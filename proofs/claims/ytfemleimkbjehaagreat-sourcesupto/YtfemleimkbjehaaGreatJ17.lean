import Derived.Test.YtfemleimkbjehaaGreatRunF
import Derived.Test.YtfemleimkbjehaaGreatJ15
namespace Go.Proofs.YtfemleimkbjehaaGreat
set_option linter.unusedVariables false
set_option linter.unusedSimpArgs false
open Go.RowKit

theorem Tryz.infoPoint : (Tryz.prog.info? 67).map (fun i => (i.zero, i.size, i.bytes)) = some (some (.agg #[.int .i64 0, .bool false, .int .i64 0, .int .i64 0, .int .i64 0]), 5, 40) := by kernel_rfl
def OwnP (W w : World) (v : Value) (ps : List Pt) : Prop := w.ownsRow W.heap.size 67 5 v ps.length (ptsCells ps)
theorem OwnP.nil (W w : World) : OwnP W w (.slice none 0 0) [] := World.ownsRow_nil _ _ _ _
theorem OwnP.bw {W a b : World} {v : Value} {ps : List Pt} (h : OwnP W a v ps) (hb : Bw a b) : OwnP W b v ps := ownsRow_bw h fun g hg => Below.block hb g hg
theorem OwnP.weaken {W V a : World} {v : Value} {ps : List Pt} (h : OwnP W a v ps) (hb : Bw V W) : OwnP V a v ps := ownsRow_weaken h hb.size
theorem ptsCells_snoc (ps : List Pt) (p : Pt) : ptsCells (ps ++ [p]) = ptsCells ps ++ p.cells := by simp [ptsCells]
theorem OwnP.snoc {W w : World} {v : Value} {ps : List Pt} {p : Pt} (h : w.ownsRow W.heap.size 67 5 v (ps.length + 1) (ptsCells ps ++ p.cells)) : OwnP W w v (ps ++ [p]) := by
  unfold OwnP; rw [ptsCells_snoc, List.length_append]; exact h
theorem pt_one (p : Pt) : ∀ u ∈ p.cells, u.oneCell' = true := by
  intro u hu
  simp [Pt.cells] at hu
  rcases hu with rfl | rfl | rfl | rfl | rfl <;> rfl
theorem pt_cells {w : World} {g : Nat} {p : Pt} (h0 : w.cell? ⟨g, 0, none⟩ = some (.int .i64 p.node)) (h1 : w.cell? ⟨g, 1, none⟩ = some (.bool p.out)) (h2 : w.cell? ⟨g, 2, none⟩ = some (.int .i64 p.epoch)) (h3 : w.cell? ⟨g, 3, none⟩ = some (.int .i64 p.round)) (h4 : w.cell? ⟨g, 4, none⟩ = some (.int .i64 p.count)) : ∀ j u, p.cells[j]? = some u → w.cell? ⟨g, j, none⟩ = some u := by
  intro j u hj
  unfold Pt.cells at hj
  match j, hj with
  | 0, hj => simp at hj; subst hj; exact h0
  | 1, hj => simp at hj; subst hj; exact h1
  | 2, hj => simp at hj; subst hj; exact h2
  | 3, hj => simp at hj; subst hj; exact h3
  | 4, hj => simp at hj; subst hj; exact h4
theorem IntTab.grown {w w' : World} {v : Value} {base n size g M : Nat} {ty : TypeId} {xs : List Value} {t : Nat → Int} (h : IntTab w g M t) (hown : w.ownsRow base ty size v n xs) (hg : w.grownBy w' v.ownBlock) (h2 : 3 ≠ ty) : IntTab w' g M t := by
  obtain ⟨arr, e1, e2⟩ := h
  exact ⟨arr, grown_block hown hg e1 (.inl h2), e2⟩

/-- The points of a table. -/
def kB (k : Nat) : Bool := (k : Int) == 1
def vS (T : Nat → Int) (R n k e : Nat) : Nat → List Pt
  | 0 => []
  | s + 1 => if T (spotN R n e s (kB k)) == 0 then vS T R n k e s else vS T R n k e s ++ [⟨n, kB k, e, s, T (spotN R n e s (kB k))⟩]
def vE (T : Nat → Int) (R n k : Nat) : Nat → List Pt
  | 0 => []
  | e + 1 => vE T R n k e ++ vS T R n k e R
def vK (T : Nat → Int) (R n : Nat) : Nat → List Pt
  | 0 => []
  | k + 1 => vK T R n k ++ vE T R n k 6
def vN (T : Nat → Int) (R : Nat) : Nat → List Pt
  | 0 => []
  | n + 1 => vN T R n ++ vK T R n 2
theorem vS_len (T : Nat → Int) (R n k e s : Nat) : (vS T R n k e s).length ≤ s := by
  induction s with
  | zero => simp [vS]
  | succ s ih => unfold vS; split <;> (try simp) <;> omega
theorem vE_len (T : Nat → Int) (R n k e : Nat) : (vE T R n k e).length ≤ e * R := by
  induction e with
  | zero => simp [vE]
  | succ e ih => unfold vE; have := vS_len T R n k e R; rw [List.length_append, Nat.add_mul]; omega
theorem vK_len (T : Nat → Int) (R n k : Nat) : (vK T R n k).length ≤ k * (6 * R) := by
  induction k with
  | zero => simp [vK]
  | succ k ih => unfold vK; have := vE_len T R n k 6; rw [List.length_append, Nat.add_mul]; omega
theorem vN_len (T : Nat → Int) (R n : Nat) : (vN T R n).length ≤ n * (2 * (6 * R)) := by
  induction n with
  | zero => simp [vN]
  | succ n ih => unfold vN; have := vK_len T R n 2; rw [List.length_append, Nat.add_mul]; omega

set_option maxRecDepth 100000 in
set_option maxHeartbeats 4000000 in
theorem rview_any {rb : Nat} {x : RV} {ns : List Nd} {R W : Nat} {D : Nat → Nat → Int} {st : RSt} (wk : Nat) (w : World) (hR : RRead w rb x ns R W D st) (hw : wk < W) (hL : 1 ≤ ns.length) (hok : ∀ i, i < st.log.length → CgOk ns.length R W (cgn st.log i) ∧ (cgn st.log i).pts.length ≤ 1000000) :
    Calls Tryz.prog 37 #[.pointer (some ⟨rb, 0, none⟩), .int .i64 (wk : Int)] w fun e w' => ∃ v, e = .returned (.tuple #[v, .int .i64 0]) ∧ OwnP w w' v (vN (tabLog ns R W st.log st.told wk st.log.length) R ns.length) ∧ Bw w w' := by
  have HR := hide hR
  obtain ⟨s1, s2, s3, s4, s5⟩ := hR.small
  have c2 := hR.c2
  have hlt0 := hR.lt
  have d1 : decide ((wk : Int) < 0) = false := by simp
  have d2 : decide ((W : Int) ≤ (wk : Int)) = false := by simp; omega
  have d3 : decide (W ≤ wk) = false := by simp; omega
  obtain ⟨M, hM⟩ : ∃ M, 2 * ns.length * 6 * R = M := ⟨_, rfl⟩
  have Htab := hide (rtable_any wk w hR hw hL hok)
  rw [hM] at Htab
  clear hR
  generalize tabLog ns R W st.log st.told wk st.log.length = T at *
  go_enter Tryz.func37, Tryz.ntmps37
  go_wp2_with fail
  refine (unhide Htab).mono ?_
  rintro en w1 ⟨g, rfl, hg, hT, hB1⟩
  clear c2 hlt0 d1 d2 d3
  go_wp2_with fail
  go_loopw [6, 8] (fun v i wr => ∃ n : Nat, n ≤ ns.length ∧ i = .int .i64 n ∧ OwnP w1 wr v (vN T R n) ∧ Bw w1 wr) (fun _ i _ => ns.length - (intOf i).toNat)
  case atStart => exact ⟨0, Nat.zero_le _, rfl, OwnP.nil _ _, Bw.refl _⟩
  case round =>
    obtain ⟨n, hnL, rfl, hown2, hB2⟩ := hrel
    rename World => w2
    have hR2 := (unhide HR).below (hB1.trans hB2)
    have c0 := hR2.c0
    have hlt0 := hR2.lt
    clear hR2
    by_cases hln : n < ns.length
    · go_wp2_with fail
      have hlN := vN_len T R n
      go_loopw [6, 9] (fun v i wr => ∃ k : Nat, k ≤ 2 ∧ i = .int .i64 k ∧ OwnP w1 wr v (vN T R n ++ vK T R n k) ∧ Bw w1 wr) (fun _ i _ => 2 - (intOf i).toNat)
      case atStart => exact ⟨0, Nat.zero_le _, rfl, by rw [show vK T R n 0 = [] from rfl, List.append_nil]; exact hown2, hB2⟩
      case round =>
        clear hown2 hB2 c0 hlt0
        obtain ⟨k, hk2, rfl, hown3, hB3⟩ := hrel
        rename World => w3
        by_cases hlk : k < 2
        · have hlK := vK_len T R n k
          have hdk : decide ((k : Int) < 2) = true := by simp; omega
          go_wp2_with fail
          go_loopw [6, 10] (fun v i wr => ∃ e : Nat, e ≤ 6 ∧ i = .int .i64 e ∧ OwnP w1 wr v (vN T R n ++ vK T R n k ++ vE T R n k e) ∧ Bw w1 wr) (fun _ i _ => 6 - (intOf i).toNat)
          case atStart => exact ⟨0, Nat.zero_le _, rfl, by rw [show vE T R n k 0 = [] from rfl, List.append_nil]; exact hown3, hB3⟩
          case round =>
            clear hown3 hB3
            obtain ⟨e, he6, rfl, hown4, hB4⟩ := hrel
            rename World => w4
            by_cases hle : e < 6
            · have hd : decide ((e : Int) ≤ 5) = true := by simp; omega
              have hlE := vE_len T R n k e
              go_wp2_with fail
              go_loopw [6, 11] (fun v i wr => ∃ s : Nat, s ≤ R ∧ i = .int .i64 s ∧ OwnP w1 wr v (vN T R n ++ vK T R n k ++ vE T R n k e ++ vS T R n k e s) ∧ Bw w1 wr) (fun _ i _ => R - (intOf i).toNat)
              case atStart => exact ⟨0, Nat.zero_le _, rfl, by rw [show vS T R n k e 0 = [] from rfl, List.append_nil]; exact hown4, hB4⟩
              case round =>
                clear hown4 hB4
                obtain ⟨s, hsR, rfl, hown5, hB5⟩ := hrel
                rename World => w5
                have hR5 := (unhide HR).below (hB1.trans hB5)
                have c1 := hR5.c1
                have hlt0 := hR5.lt
                by_cases hls : s < R
                · have hlS := vS_len T R n k e s
                  have Hlen : Hid ((vN T R n ++ vK T R n k ++ vE T R n k e ++ vS T R n k e s).length + 1 ≤ 1000000000) := hide (by
                    have h1 : n * (2 * (6 * R)) ≤ 8 * (2 * (6 * 4)) := Nat.mul_le_mul (by omega) (by omega)
                    have h2 : k * (6 * R) ≤ 2 * (6 * 4) := Nat.mul_le_mul (by omega) (by omega)
                    have h3 : e * R ≤ 6 * 4 := Nat.mul_le_mul (by omega) (by omega)
                    simp only [List.length_append]; omega)
                  have hsp : spotN R n e s (kB k) < M := by rw [← hM]; exact spotN_lt hln hle hls
                  have Hspot := hide (fun w' h => rspot_any (rb := rb) (x := x) (D := D) (st := st) (ns := ns) (R := R) (W := W) n e s (kB k) 0 w' h hln hle hls)
                  have Hst : Hid (vS T R n k e (s + 1) = if T (spotN R n e s (kB k)) == 0 then vS T R n k e s else vS T R n k e s ++ [⟨n, kB k, e, s, T (spotN R n e s (kB k))⟩]) := hide rfl
                  have hkB : ((k : Int) == 1) = kB k := rfl
                  generalize spotN R n e s (kB k) = sp at *
                  generalize kB k = kb at *
                  generalize vS T R n k e s = L4 at *
                  have hjM : (sp : Int) < (M : Int) := by omega
                  go_wp2_with fail
                  refine ((unhide Hspot) _ (hR5.below (by repeat (first | exact Bw.refl _ | assumption | refine Bw.drew ?_ | refine Bw.drewN ?_ _ | refine Bw.alloc ?_ _ | refine Bw.trans ?_ (by assumption))))).mono ?_
                  rintro en w6 ⟨rfl, hB6⟩
                  have hB56 : Bw w5 w6 := (by repeat (first | exact Bw.refl _ | assumption | refine Bw.drew ?_ | refine Bw.drewN ?_ _ | refine Bw.alloc ?_ _ | refine Bw.trans ?_ (by assumption)))
                  have hnb : w6.heap[w5.heap.size]? = some (.cells #[.int .i64 (n : Int), .bool kb, .int .i64 (e : Int), .int .i64 (s : Int), .int .i64 0] 67) := (Below.block hB6 _ (by simp)).trans (heap_alloc_new w5 _)
                  have b0 := cell_of_block (o := 0) hnb rfl
                  have b1 := cell_of_block (o := 1) hnb rfl
                  have b2 := cell_of_block (o := 2) hnb rfl
                  have b3 := cell_of_block (o := 3) hnb rfl
                  have b4 := cell_of_block (o := 4) hnb rfl
                  have b5 := frozen_of_block (o := 4) hnb
                  have gb := (Array.getElem?_eq_some_iff.1 hnb).1
                  have hT6 := hT.bw (hB5.trans hB56)
                  have t0 := hT6.cell hsp
                  have t2 := hT6.lt
                  have hg5 : w1.heap.size ≤ w5.heap.size := hB5.size
                  clear hnb
                  generalize T sp = tv at *
                  have Hown7 := hide (show OwnP w1 (w6.setCell ⟨w5.heap.size, 4, none⟩ (.int .i64 tv)) _ (vN T R n ++ vK T R n k ++ vE T R n k e ++ L4) from ownsRow_bw hown5 fun b hb => (Below.heap_setCell w6 ⟨w5.heap.size, 4, none⟩ (.int .i64 tv) b (by simp only; omega)).trans (Below.block hB56 b hb))
                  have HB7 := hide (show Bw w1 (w6.setCell ⟨w5.heap.size, 4, none⟩ (.int .i64 tv)) from Bw.setCell (hB5.trans hB56) hg5 _)
                  cases hz : (tv == 0) with
                  | true =>
                    have hzn : (tv != 0) = false := by simp [bne, hz]
                    have Hs : Hid (vS T R n k e (s + 1) = L4) := hide (by rw [unhide Hst, hz]; rfl)
                    clear hz Hst
                    go_wp2_with fail
                    go_roundw
                    case rel => exact ⟨s + 1, by omega, by go_num, by rw [unhide Hs]; exact unhide Hown7, unhide HB7⟩
                    case measure => simp [intOf]; omega
                  | false =>
                    have hzn : (tv != 0) = true := by simp [bne, hz]
                    have Hs : Hid (vS T R n k e (s + 1) = L4 ++ [⟨n, kb, e, s, tv⟩]) := hide (by rw [unhide Hst, hz]; rfl)
                    clear hz Hst
                    go_wp2_with (at_builtin; refine appT _ rfl _ _ _ 67 rfl _ 5 40 Tryz.infoPoint Tryz.underlying63 rfl (by decide) w1.heap.size _ (vN T R n ++ vK T R n k ++ vE T R n k e ++ L4).length (ptsCells (vN T R n ++ vK T R n k ++ vE T R n k e ++ L4)) rfl ((unhide Hown7).bw (by repeat (first | exact Bw.refl _ | assumption | refine Bw.drew ?_ | refine Bw.drewN ?_ _ | refine Bw.alloc ?_ _ | refine Bw.trans ?_ (by assumption)))) _ _ (Pt.cells ⟨n, kb, e, s, tv⟩) rfl rfl (pt_cells (cell_of_block (alloc_at _ _ (by simp)) rfl) (cell_of_block (alloc_at _ _ (by simp)) rfl) (cell_of_block (alloc_at _ _ (by simp)) rfl) (cell_of_block (alloc_at _ _ (by simp)) rfl) (cell_of_block (alloc_at _ _ (by simp)) rfl)) (pt_one _) (unhide Hlen) (by omega) (Bw.size ((unhide HB7).alloc _)) ?_; intro v' w8 hown8 hgr8)
                    go_roundw
                    case rel => exact ⟨s + 1, by omega, by go_num, by rw [unhide Hs, ← List.append_assoc]; exact OwnP.snoc hown8, Bw.grown ((unhide HB7).alloc _) ((unhide Hown7).bw (by repeat (first | exact Bw.refl _ | assumption | refine Bw.drew ?_ | refine Bw.drewN ?_ _ | refine Bw.alloc ?_ _ | refine Bw.trans ?_ (by assumption)))) hgr8 (Nat.le_refl _)⟩
                    case measure => simp [intOf]; omega
                · have hss : s = R := by omega
                  subst hss
                  have Hn : Hid (vE T s n k (e + 1) = vE T s n k e ++ vS T s n k e s) := hide rfl
                  go_wp2_with fail
                  go_roundw
                  case rel => exact ⟨e + 1, by omega, by go_num, by rw [unhide Hn, ← List.append_assoc]; exact hown5, hB5⟩
                  case measure => simp [intOf]; omega
            · have hee : e = 6 := by omega
              subst hee
              have Hn : Hid (vK T R n (k + 1) = vK T R n k ++ vE T R n k 6) := hide rfl
              go_wp2_with fail
              go_roundw
              case rel => exact ⟨k + 1, by omega, by go_num, by rw [unhide Hn, ← List.append_assoc]; exact hown4, hB4⟩
              case measure => simp [intOf]; omega
        · have hkk : k = 2 := by omega
          subst hkk
          have Hn : Hid (vN T R (n + 1) = vN T R n ++ vK T R n 2) := hide rfl
          go_wp2_with fail
          go_roundw
          case rel => exact ⟨n + 1, by omega, by go_num, by rw [unhide Hn]; exact hown3, hB3⟩
          case measure => simp [intOf]; omega
    · have hnn : n = ns.length := by omega
      subst hnn
      go_wp2_with fail
      go_ret2
      exact ⟨_, rfl, hown2.weaken hB1, hB1.trans hB2⟩
end Go.Proofs.YtfemleimkbjehaaGreat
namespace Go.Proofs.YtfemleimkbjehaaGreat
set_option linter.unusedVariables false
set_option linter.unusedSimpArgs false
open Go.RowKit

theorem src_noneT {t ty : TypeId} {size : Nat} (hund : Tryz.prog.underlying t = some (.slice ty)) (ad : Option Addr) (c : Nat) (w : World) : Src Tryz.prog size t (.slice ad 0 c) 0 [] w where
  kind := .inl ⟨_, hund⟩
  len := fun w' => by simp [Builtin.lenOf]
  cells := by cases ad <;> simp [Builtin.firstCells, loadCells, loadCellsFrom]
  cellsD := by cases ad <;> simp [Builtin.firstCells, loadCells, loadCellsFrom]
  newsLen := by simp
  one := by simp

/-- A slice of m elements of so many cells that can be read. -/
def CellsAt (w : World) (ad : Option Addr) (m : Nat) (news : List Value) : Prop := 0 < m → ∃ g off, ad = some ⟨g, off, none⟩ ∧ ∀ j u, news[j]? = some u → w.cell? ⟨g, off + j, none⟩ = some u

/-- 'append(v, ys...)', elements of any type, ys of any length. -/
theorem run_appG (w : World) (t ty res : TypeId) (z : Value) (size bytes : Nat) (hinf : (Tryz.prog.info? ty).map (fun i => (i.zero, i.size, i.bytes)) = some (some z, size, bytes)) (hund : Tryz.prog.underlying t = some (.slice ty)) (hzs : z.cells.size = size) (hsz : 0 < size)
    (base : Nat) (v : Value) (n : Nat) (xs : List Value) (hown : w.ownsRow base ty size v n xs)
    (ad : Option Addr) (m c : Nat) (news : List Value) (hnl : news.length = m * size) (hc : CellsAt w ad m news) (h1 : ∀ u ∈ news, u.oneCell' = true) (hl1 : n + m ≤ 1000000000) (hb : (n + m) * bytes ≤ 140737488355328) (hB : base ≤ w.heap.size) :
    ∃ v' w', (Builtin.append_ #[t, t] res #[v, .slice ad m c]).run Tryz.prog w = .ok v' w' ∧ w'.ownsRow base ty size v' (n + m) (xs ++ news) ∧ w.grownBy w' v.ownBlock ∧ ∀ b, v'.ownBlock = some b → v.ownBlock = some b ∨ b = w.heap.size := by
  obtain ⟨i0, hi, hz0, hz1, hz2⟩ := info_parts hinf
  by_cases hm : 0 < m
  · obtain ⟨g, off, rfl, hcc⟩ := hc hm
    obtain ⟨g', cap, w', hr, h2, h3, h4, _⟩ := run_append_lies (P := Tryz.prog) w t res base ty i0 z size bytes hund hi hz0 hz1 hz2 hzs hsz v n xs hown ⟨g, off, none⟩ m c news hnl
      (by intro j u hj
          refine add_cell ?_
          exact hcc j u hj) h1 hm (by unfold maxLen; omega) hb hB _ rfl
    refine ⟨_, w', hr, h2, h3, fun b hb => ?_⟩
    simp only [Value.ownBlock, Option.some.injEq] at hb
    subst hb
    exact h4
  · have h0 : m = 0 := by omega
    subst h0
    have hn0 : news = [] := List.eq_nil_of_length_eq_zero (by simpa using hnl)
    subst hn0
    have hvv := ownsRow_val hown
    have hcap : n ≤ capV v := by
      rcases hown.2 with ⟨rfl, h⟩ | ⟨g, cap, cur, rfl, _, _, h, _⟩
      · omega
      · exact h
    have hr := run_append_nothing (P := Tryz.prog) w t t res ty i0 hund hi (addrOf v) n (capV v) hcap (.slice ad 0 c) (by rw [hz1]; exact src_noneT hund ad c w)
    rw [← hvv] at hr
    refine ⟨v, w, hr, by rw [List.append_nil]; exact hown, ⟨rfl, rfl, rfl, Nat.le_refl _, fun _ _ _ => rfl⟩, fun b hb => .inl hb⟩
theorem appG {ops : Array Oper} {rest : List Oper} {o : Oper} {a : Act} {Q : Exit → Act → World → Prop} (w : World) (hgd : o.guard = none) (s y : Operand) (t ty : TypeId)
    (ho : o.op = .call { callee := .builtin .append, args := #[s, y], argTypes := #[t, t] }) (z : Value) (size bytes : Nat) (hinf : (Tryz.prog.info? ty).map (fun i => (i.zero, i.size, i.bytes)) = some (some z, size, bytes)) (hund : Tryz.prog.underlying t = some (.slice ty)) (hzs : z.cells.size = size) (hsz : 0 < size)
    (base : Nat) (v : Value) (n : Nat) (xs : List Value) (hs : a.eval s = v) (hown : w.ownsRow base ty size v n xs)
    (ad : Option Addr) (m c : Nat) (news : List Value) (hx : a.eval y = .slice ad m c) (hnl : news.length = m * size) (hc : CellsAt w ad m news) (h1 : ∀ u ∈ news, u.oneCell' = true) (hl1 : n + m ≤ 1000000000) (hb : (n + m) * bytes ≤ 140737488355328) (hB : base ≤ w.heap.size)
    (h : ∀ v' w', w'.ownsRow base ty size v' (n + m) (xs ++ news) → w.grownBy w' v.ownBlock → (∀ b, v'.ownBlock = some b → v.ownBlock = some b ∨ b = w.heap.size) → wpList Tryz.prog ops Q rest (a.put o.dst v') w') : wpList Tryz.prog ops Q (o :: rest) a w := by
  obtain ⟨v', w', hr, h2, h3, h4⟩ := run_appG w t ty o.type z size bytes hinf hund hzs hsz base v n xs hown ad m c news hnl hc h1 hl1 hb hB
  refine wpList_plain hgd fun _ hK => ?_
  unfold Oper.wp execOp
  simp only [ho, resolve, invoke, builtin, Sem.run_bind, Sem.run_pure, Result.andThen_ok, List.map_toArray, List.map_cons, List.map_nil, hs, hx, hr]
  exact hK _ _ (h v' w' h2 h3 h4)
theorem stepG {ops : Array Oper} {o : Oper} {a : Act} {w : World} {K : Act → World → Prop} {Q : Exit → Act → World → Prop} {E : Prop} (hgd : o.guard = none) (s y : Operand) (t ty : TypeId)
    (ho : o.op = .call { callee := .builtin .append, args := #[s, y], argTypes := #[t, t] }) (z : Value) (size bytes : Nat) (hinf : (Tryz.prog.info? ty).map (fun i => (i.zero, i.size, i.bytes)) = some (some z, size, bytes)) (hund : Tryz.prog.underlying t = some (.slice ty)) (hzs : z.cells.size = size) (hsz : 0 < size)
    (base : Nat) (v : Value) (n : Nat) (xs : List Value) (hs : a.eval s = v) (hown : w.ownsRow base ty size v n xs)
    (ad : Option Addr) (m c : Nat) (news : List Value) (hx : a.eval y = .slice ad m c) (hnl : news.length = m * size) (hc : CellsAt w ad m news) (h1 : ∀ u ∈ news, u.oneCell' = true) (hl1 : n + m ≤ 1000000000) (hb : (n + m) * bytes ≤ 140737488355328) (hB : base ≤ w.heap.size)
    (h : ∀ v' w', w'.ownsRow base ty size v' (n + m) (xs ++ news) → w.grownBy w' v.ownBlock → (∀ b, v'.ownBlock = some b → v.ownBlock = some b ∨ b = w.heap.size) → K (a.put o.dst v') w') :
    if Region.wanted o (yielded ops a.tmps) = true then Oper.wp Tryz.prog o a w K Q else E := by
  obtain ⟨v', w', hr, h2, h3, h4⟩ := run_appG w t ty o.type z size bytes hinf hund hzs hsz base v n xs hown ad m c news hnl hc h1 hl1 hb hB
  have hw : Region.wanted o (yielded ops a.tmps) = true := by simp [Region.wanted, hgd]
  rw [if_pos hw]
  unfold Oper.wp
  simp only [execOp, ho, resolve, invoke, builtin, Sem.run_bind, Sem.run_pure, Result.andThen_ok, List.map_toArray, List.map_cons, List.map_nil, hs, hx, hr]
  exact h v' w' h2 h3 h4
end Go.Proofs.YtfemleimkbjehaaGreat
