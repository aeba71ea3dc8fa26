import Derived.Test.YtfemleimkbjehaaGreatRunF
import Derived.Test.YtfemleimkbjehaaGreatJ7
set_option maxRecDepth 1000000
set_option maxHeartbeats 40000000
set_option linter.unusedVariables false
set_option linter.unusedSimpArgs false
namespace Go.Proofs.YtfemleimkbjehaaGreat
open Go.RowKit
theorem Tryz.infoPoint : (Tryz.prog.info? 67).map (fun i => (i.zero, i.size, i.bytes)) = some (some (.agg #[.int .i64 0, .bool false, .int .i64 0, .int .i64 0, .int .i64 0]), 5, 40) := by kernel_rfl
def OwnP (W w : World) (v : Value) (ps : List Pt) : Prop := w.ownsRow W.heap.size 67 5 v ps.length (qR ps)
theorem OwnP.nil (W w : World) : OwnP W w (.slice none 0 0) [] := World.ownsRow_nil _ _ _ _
theorem OwnP.bw {W a b : World} {v : Value} {ps : List Pt} (h : OwnP W a v ps) (hb : Bw a b) : OwnP W b v ps := qX h fun g hg => Below.block hb g hg
theorem OwnP.weaken {W V a : World} {v : Value} {ps : List Pt} (h : OwnP W a v ps) (hb : Bw V W) : OwnP V a v ps := qM h hb.size
theorem ptsCells_snoc (ps : List Pt) (p : Pt) : qR (ps ++ [p]) = qR ps ++ p.cells := by simp [qR]
theorem OwnP.snoc {W w : World} {v : Value} {ps : List Pt} {p : Pt} (h : w.ownsRow W.heap.size 67 5 v (ps.length + 1) (qR ps ++ p.cells)) : OwnP W w v (ps ++ [p]) := by
  unfold OwnP; rw [ptsCells_snoc, List.length_append]; exact h
theorem pt_one (p : Pt) : ∀ u ∈ p.cells, u.oneCell' = true := by
  intro u hu
  simp [Pt.cells] at hu
  rcases hu with rfl | rfl | rfl | rfl | rfl <;> rfl
theorem xV {w : World} {g : Nat} {p : Pt} (h0 : w.cell? ⟨g, 0, none⟩ = some (.int .i64 p.node)) (h1 : w.cell? ⟨g, 1, none⟩ = some (.bool p.out)) (h2 : w.cell? ⟨g, 2, none⟩ = some (.int .i64 p.epoch)) (h3 : w.cell? ⟨g, 3, none⟩ = some (.int .i64 p.round)) (h4 : w.cell? ⟨g, 4, none⟩ = some (.int .i64 p.count)) : ∀ j u, p.cells[j]? = some u → w.cell? ⟨g, j, none⟩ = some u := by
  intro j u hj
  unfold Pt.cells at hj
  match j, hj with
  | 0, hj => simp at hj; subst hj; exact h0
  | 1, hj => simp at hj; subst hj; exact h1
  | 2, hj => simp at hj; subst hj; exact h2
  | 3, hj => simp at hj; subst hj; exact h3
  | 4, hj => simp at hj; subst hj; exact h4
def kB (k : Nat) : Bool := (k : Int) == 1
def vS (T : Nat → Int) (R n k e : Nat) : Nat → List Pt
  | 0 => []
  | s + 1 => if T (kN R n e s (kB k)) == 0 then vS T R n k e s else vS T R n k e s ++ [⟨n, kB k, e, s, T (kN R n e s (kB k))⟩]
def vE (T : Nat → Int) (R n k : Nat) : Nat → List Pt
  | 0 => []
  | e + 1 => vE T R n k e ++ vS T R n k e R
def vK (T : Nat → Int) (R n : Nat) : Nat → List Pt
  | 0 => []
  | k + 1 => vK T R n k ++ vE T R n k 6
def vN (T : Nat → Int) (R : Nat) : Nat → List Pt
  | 0 => []
  | n + 1 => vN T R n ++ vK T R n 2
theorem vS_len (T : Nat → Int) (R n k e s : Nat) : (vS T R n k e s).length ≤ s := by
  induction s with
  | zero => simp [vS]
  | succ s ih => unfold vS; split <;> (try simp) <;> omega
theorem vE_len (T : Nat → Int) (R n k e : Nat) : (vE T R n k e).length ≤ e * R := by
  induction e with
  | zero => simp [vE]
  | succ e ih => unfold vE; have := vS_len T R n k e R; rw [List.length_append, Nat.add_mul]; omega
theorem vK_len (T : Nat → Int) (R n k : Nat) : (vK T R n k).length ≤ k * (6 * R) := by
  induction k with
  | zero => simp [vK]
  | succ k ih => unfold vK; have := vE_len T R n k 6; rw [List.length_append, Nat.add_mul]; omega
theorem vN_len (T : Nat → Int) (R n : Nat) : (vN T R n).length ≤ n * (2 * (6 * R)) := by
  induction n with
  | zero => simp [vN]
  | succ n ih => unfold vN; have := vK_len T R n 2; rw [List.length_append, Nat.add_mul]; omega
theorem rview_any {rb : Nat} {x : RV} {ns : List Nd} {R W : Nat} {D : Nat → Nat → Int} {st : RSt} (wk : Nat) (w : World) (hR : RRead w rb x ns R W D st) (hw : wk < W) (hL : 1 ≤ ns.length) (hok : ∀ i, i < st.log.length → CgOk ns.length R W (jF st.log i) ∧ (jF st.log i).pts.length ≤ 100000000) :
    Calls Tryz.prog 37 #[.pointer (some ⟨rb, 0, none⟩), .int .i64 (wk : Int)] w fun e w' => ∃ v, e = .returned (.tuple #[v, .int .i64 0]) ∧ OwnP w w' v (vN (qD ns R W st.log st.told wk st.log.length) R ns.length) ∧ Bw w w' := by
  have HR := qJ hR
  obtain ⟨s1, s2, s3, s4, s5⟩ := hR.small
  have c2 := hR.c2
  have hlt0 := hR.lt
  have d1 : decide ((wk : Int) < 0) = false := by simp
  have d2 : decide ((W : Int) ≤ (wk : Int)) = false := by simp; omega
  have d3 : decide (W ≤ wk) = false := by simp; omega
  obtain ⟨M, hM⟩ : ∃ M, 2 * ns.length * 6 * R = M := ⟨_, rfl⟩
  have Htab := qJ (rtable_any wk w hR hw hL hok)
  rw [hM] at Htab
  clear hR
  generalize qD ns R W st.log st.told wk st.log.length = T at *
  go_enter Tryz.func37, Tryz.ntmps37
  go_wp2_with fail
  refine (qK Htab).mono ?_
  rintro en w1 ⟨g, rfl, hg, hT, hB1⟩
  clear c2 hlt0 d1 d2 d3
  go_wp2_with fail
  go_loopw [6, 8] (fun v i wr => ∃ n : Nat, n ≤ ns.length ∧ i = .int .i64 n ∧ OwnP w1 wr v (vN T R n) ∧ Bw w1 wr) (fun _ i _ => ns.length - (intOf i).toNat)
  case atStart => exact ⟨0, Nat.zero_le _, rfl, OwnP.nil _ _, Bw.refl _⟩
  case round =>
    obtain ⟨n, hnL, rfl, hown2, hB2⟩ := hrel
    rename World => w2
    have hR2 := (qK HR).below (hB1.trans hB2)
    have c0 := hR2.c0
    have hlt0 := hR2.lt
    clear hR2
    by_cases hln : n < ns.length
    · go_wp2_with fail
      have hlN := vN_len T R n
      go_loopw [6, 9] (fun v i wr => ∃ k : Nat, k ≤ 2 ∧ i = .int .i64 k ∧ OwnP w1 wr v (vN T R n ++ vK T R n k) ∧ Bw w1 wr) (fun _ i _ => 2 - (intOf i).toNat)
      case atStart => exact ⟨0, Nat.zero_le _, rfl, by rw [show vK T R n 0 = [] from rfl, List.append_nil]; exact hown2, hB2⟩
      case round =>
        clear hown2 hB2 c0 hlt0
        obtain ⟨k, hk2, rfl, hown3, hB3⟩ := hrel
        rename World => w3
        by_cases hlk : k < 2
        · have hlK := vK_len T R n k
          have hdk : decide ((k : Int) < 2) = true := by simp; omega
          go_wp2_with fail
          go_loopw [6, 10] (fun v i wr => ∃ e : Nat, e ≤ 6 ∧ i = .int .i64 e ∧ OwnP w1 wr v (vN T R n ++ vK T R n k ++ vE T R n k e) ∧ Bw w1 wr) (fun _ i _ => 6 - (intOf i).toNat)
          case atStart => exact ⟨0, Nat.zero_le _, rfl, by rw [show vE T R n k 0 = [] from rfl, List.append_nil]; exact hown3, hB3⟩
          case round =>
            clear hown3 hB3
            obtain ⟨e, he6, rfl, hown4, hB4⟩ := hrel
            rename World => w4
            by_cases hle : e < 6
            · have hd : decide ((e : Int) ≤ 5) = true := by simp; omega
              have hlE := vE_len T R n k e
              go_wp2_with fail
              go_loopw [6, 11] (fun v i wr => ∃ s : Nat, s ≤ R ∧ i = .int .i64 s ∧ OwnP w1 wr v (vN T R n ++ vK T R n k ++ vE T R n k e ++ vS T R n k e s) ∧ Bw w1 wr) (fun _ i _ => R - (intOf i).toNat)
              case atStart => exact ⟨0, Nat.zero_le _, rfl, by rw [show vS T R n k e 0 = [] from rfl, List.append_nil]; exact hown4, hB4⟩
              case round =>
                clear hown4 hB4
                obtain ⟨s, hsR, rfl, hown5, hB5⟩ := hrel
                rename World => w5
                have hR5 := (qK HR).below (hB1.trans hB5)
                have c1 := hR5.c1
                have hlt0 := hR5.lt
                by_cases hls : s < R
                · have hlS := vS_len T R n k e s
                  have Hlen : Hid ((vN T R n ++ vK T R n k ++ vE T R n k e ++ vS T R n k e s).length + 1 ≤ 1000000000) := qJ (by
                    have h1 : n * (2 * (6 * R)) ≤ 8 * (2 * (6 * 4)) := Nat.mul_le_mul (by omega) (by omega)
                    have h2 : k * (6 * R) ≤ 2 * (6 * 4) := Nat.mul_le_mul (by omega) (by omega)
                    have h3 : e * R ≤ 6 * 4 := Nat.mul_le_mul (by omega) (by omega)
                    simp only [List.length_append]; omega)
                  have hsp : kN R n e s (kB k) < M := by rw [← hM]; exact spotN_lt hln hle hls
                  have Hspot := qJ (fun w' h => rspot_any (rb := rb) (x := x) (D := D) (st := st) (ns := ns) (R := R) (W := W) n e s (kB k) 0 w' h hln hle hls)
                  have Hst : Hid (vS T R n k e (s + 1) = if T (kN R n e s (kB k)) == 0 then vS T R n k e s else vS T R n k e s ++ [⟨n, kB k, e, s, T (kN R n e s (kB k))⟩]) := qJ rfl
                  have hkB : ((k : Int) == 1) = kB k := rfl
                  generalize kN R n e s (kB k) = sp at *
                  generalize kB k = kb at *
                  generalize vS T R n k e s = L4 at *
                  have hjM : (sp : Int) < (M : Int) := by omega
                  go_wp2_with fail
                  refine ((qK Hspot) _ (hR5.below (by repeat first|exact br _|assumption|apply bd|apply bn|apply ba|refine bt ?_ (by assumption)))).mono ?_
                  rintro en w6 ⟨rfl, hB6⟩
                  have hB56 : Bw w5 w6 := (by repeat first|exact br _|assumption|apply bd|apply bn|apply ba|refine bt ?_ (by assumption))
                  have hnb : w6.heap[w5.heap.size]? = some (.cells #[.int .i64 (n : Int), .bool kb, .int .i64 (e : Int), .int .i64 (s : Int), .int .i64 0] 67) := (Below.block hB6 _ (by simp)).trans (heap_alloc_new w5 _)
                  have b0 := qQ (o := 0) hnb rfl
                  have b1 := qQ (o := 1) hnb rfl
                  have b2 := qQ (o := 2) hnb rfl
                  have b3 := qQ (o := 3) hnb rfl
                  have b4 := qQ (o := 4) hnb rfl
                  have b5 := qZ (o := 4) hnb
                  have gb := (Array.getElem?_eq_some_iff.1 hnb).1
                  have hT6 := hT.bw (hB5.trans hB56)
                  have t0 := hT6.cell hsp
                  have t2 := hT6.lt
                  have hg5 : w1.heap.size ≤ w5.heap.size := hB5.size
                  clear hnb
                  generalize T sp = tv at *
                  have Hown7 := qJ (show OwnP w1 (w6.setCell ⟨w5.heap.size, 4, none⟩ (.int .i64 tv)) _ (vN T R n ++ vK T R n k ++ vE T R n k e ++ L4) from qX hown5 fun b hb => (Below.heap_setCell w6 ⟨w5.heap.size, 4, none⟩ (.int .i64 tv) b (by simp only; omega)).trans (Below.block hB56 b hb))
                  have HB7 := qJ (show Bw w1 (w6.setCell ⟨w5.heap.size, 4, none⟩ (.int .i64 tv)) from Bw.setCell (hB5.trans hB56) hg5 _)
                  cases hz : (tv == 0) with
                  | true =>
                    have hzn : (tv != 0) = false := by simp [bne, hz]
                    have Hs : Hid (vS T R n k e (s + 1) = L4) := qJ (by rw [qK Hst, hz]; rfl)
                    clear hz Hst
                    go_wp2_with fail
                    go_roundw
                    case rel => exact ⟨s + 1, by omega, by go_num, by rw [qK Hs]; exact qK Hown7, qK HB7⟩
                    case measure => simp [intOf]; omega
                  | false =>
                    have hzn : (tv != 0) = true := by simp [bne, hz]
                    have Hs : Hid (vS T R n k e (s + 1) = L4 ++ [⟨n, kb, e, s, tv⟩]) := qJ (by rw [qK Hst, hz]; rfl)
                    clear hz Hst
                    go_wp2_with (at_builtin; refine appT _ rfl _ _ _ 67 rfl _ 5 40 Tryz.infoPoint Tryz.underlying63 rfl (by decide) w1.heap.size _ (vN T R n ++ vK T R n k ++ vE T R n k e ++ L4).length (qR (vN T R n ++ vK T R n k ++ vE T R n k e ++ L4)) rfl ((qK Hown7).bw (by repeat first|exact br _|assumption|apply bd|apply bn|apply ba|refine bt ?_ (by assumption))) _ _ (Pt.cells ⟨n, kb, e, s, tv⟩) rfl rfl (xV (qQ (qY _ _ (by simp)) rfl) (qQ (qY _ _ (by simp)) rfl) (qQ (qY _ _ (by simp)) rfl) (qQ (qY _ _ (by simp)) rfl) (qQ (qY _ _ (by simp)) rfl)) (pt_one _) (qK Hlen) (by omega) (Bw.size ((qK HB7).alloc _)) ?_; intro v' w8 hown8 hgr8)
                    go_roundw
                    case rel => exact ⟨s + 1, by omega, by go_num, by rw [qK Hs, ← List.append_assoc]; exact OwnP.snoc hown8, Bw.grown ((qK HB7).alloc _) ((qK Hown7).bw (by repeat first|exact br _|assumption|apply bd|apply bn|apply ba|refine bt ?_ (by assumption))) hgr8 (Nat.le_refl _)⟩
                    case measure => simp [intOf]; omega
                · have hss : s = R := by omega
                  subst hss
                  have Hn : Hid (vE T s n k (e + 1) = vE T s n k e ++ vS T s n k e s) := qJ rfl
                  go_wp2_with fail
                  go_roundw
                  case rel => exact ⟨e + 1, by omega, by go_num, by rw [qK Hn, ← List.append_assoc]; exact hown5, hB5⟩
                  case measure => simp [intOf]; omega
            · have hee : e = 6 := by omega
              subst hee
              have Hn : Hid (vK T R n (k + 1) = vK T R n k ++ vE T R n k 6) := qJ rfl
              go_wp2_with fail
              go_roundw
              case rel => exact ⟨k + 1, by omega, by go_num, by rw [qK Hn, ← List.append_assoc]; exact hown4, hB4⟩
              case measure => simp [intOf]; omega
        · have hkk : k = 2 := by omega
          subst hkk
          have Hn : Hid (vN T R (n + 1) = vN T R n ++ vK T R n 2) := qJ rfl
          go_wp2_with fail
          go_roundw
          case rel => exact ⟨n + 1, by omega, by go_num, by rw [qK Hn]; exact hown3, hB3⟩
          case measure => simp [intOf]; omega
    · have hnn : n = ns.length := by omega
      subst hnn
      go_wp2_with fail
      go_ret2
      exact ⟨_, rfl, hown2.weaken hB1, hB1.trans hB2⟩
theorem src_noneT {t ty : TypeId} {size : Nat} (hund : Tryz.prog.underlying t = some (.slice ty)) (ad : Option Addr) (c : Nat) (w : World) : Src Tryz.prog size t (.slice ad 0 c) 0 [] w where
  kind := .inl ⟨_, hund⟩
  len := fun w' => by simp [Builtin.lenOf]
  cells := by cases ad <;> simp [Builtin.firstCells, loadCells, loadCellsFrom]
  cellsD := by cases ad <;> simp [Builtin.firstCells, loadCells, loadCellsFrom]
  newsLen := by simp
  one := by simp
def CellsAt (w : World) (ad : Option Addr) (m : Nat) (news : List Value) : Prop := 0 < m → ∃ g off, ad = some ⟨g, off, none⟩ ∧ ∀ j u, news[j]? = some u → w.cell? ⟨g, off + j, none⟩ = some u
theorem run_appG (w : World) (t ty res : TypeId) (z : Value) (size bytes : Nat) (hinf : (Tryz.prog.info? ty).map (fun i => (i.zero, i.size, i.bytes)) = some (some z, size, bytes)) (hund : Tryz.prog.underlying t = some (.slice ty)) (hzs : z.cells.size = size) (hsz : 0 < size)
    (base : Nat) (v : Value) (n : Nat) (xs : List Value) (hown : w.ownsRow base ty size v n xs)
    (ad : Option Addr) (m c : Nat) (news : List Value) (hnl : news.length = m * size) (hc : CellsAt w ad m news) (h1 : ∀ u ∈ news, u.oneCell' = true) (hl1 : n + m ≤ 1000000000) (hb : (n + m) * bytes ≤ 140737488355328) (hB : base ≤ w.heap.size) :
    ∃ v' w', (Builtin.append_ #[t, t] res #[v, .slice ad m c]).run Tryz.prog w = .ok v' w' ∧ w'.ownsRow base ty size v' (n + m) (xs ++ news) ∧ w.grownBy w' v.ownBlock ∧ ∀ b, v'.ownBlock = some b → v.ownBlock = some b ∨ b = w.heap.size := by
  obtain ⟨i0, hi, hz0, hz1, hz2⟩ := info_parts hinf
  by_cases hm : 0 < m
  · obtain ⟨g, off, rfl, hcc⟩ := hc hm
    obtain ⟨g', cap, w', hr, h2, h3, h4, _⟩ := run_append_lies (P := Tryz.prog) w t res base ty i0 z size bytes hund hi hz0 hz1 hz2 hzs hsz v n xs hown ⟨g, off, none⟩ m c news hnl
      (by intro j u hj
          refine add_cell ?_
          exact hcc j u hj) h1 hm (by unfold maxLen; omega) hb hB _ rfl
    refine ⟨_, w', hr, h2, h3, fun b hb => ?_⟩
    simp only [Value.ownBlock, Option.some.injEq] at hb
    subst hb
    exact h4
  · have h0 : m = 0 := by omega
    subst h0
    have hn0 : news = [] := List.eq_nil_of_length_eq_zero (by simpa using hnl)
    subst hn0
    have hvv := qV hown
    have hcap : n ≤ capV v := by
      rcases hown.2 with ⟨rfl, h⟩ | ⟨g, cap, cur, rfl, _, _, h, _⟩
      · omega
      · exact h
    have hr := run_append_nothing (P := Tryz.prog) w t t res ty i0 hund hi (kY v) n (capV v) hcap (.slice ad 0 c) (by rw [hz1]; exact src_noneT hund ad c w)
    rw [← hvv] at hr
    refine ⟨v, w, hr, by rw [List.append_nil]; exact hown, ⟨rfl, rfl, rfl, Nat.le_refl _, fun _ _ _ => rfl⟩, fun b hb => .inl hb⟩
theorem appG {ops : Array Oper} {rest : List Oper} {o : Oper} {a : Act} {Q : Exit → Act → World → Prop} (w : World) (hgd : o.guard = none) (s y : Operand) (t ty : TypeId)
    (ho : o.op = .call { callee := .builtin .append, args := #[s, y], argTypes := #[t, t] }) (z : Value) (size bytes : Nat) (hinf : (Tryz.prog.info? ty).map (fun i => (i.zero, i.size, i.bytes)) = some (some z, size, bytes)) (hund : Tryz.prog.underlying t = some (.slice ty)) (hzs : z.cells.size = size) (hsz : 0 < size)
    (base : Nat) (v : Value) (n : Nat) (xs : List Value) (hs : a.eval s = v) (hown : w.ownsRow base ty size v n xs)
    (ad : Option Addr) (m c : Nat) (news : List Value) (hx : a.eval y = .slice ad m c) (hnl : news.length = m * size) (hc : CellsAt w ad m news) (h1 : ∀ u ∈ news, u.oneCell' = true) (hl1 : n + m ≤ 1000000000) (hb : (n + m) * bytes ≤ 140737488355328) (hB : base ≤ w.heap.size)
    (h : ∀ v' w', w'.ownsRow base ty size v' (n + m) (xs ++ news) → w.grownBy w' v.ownBlock → (∀ b, v'.ownBlock = some b → v.ownBlock = some b ∨ b = w.heap.size) → wpList Tryz.prog ops Q rest (a.put o.dst v') w') : wpList Tryz.prog ops Q (o :: rest) a w := by
  obtain ⟨v', w', hr, h2, h3, h4⟩ := run_appG w t ty o.type z size bytes hinf hund hzs hsz base v n xs hown ad m c news hnl hc h1 hl1 hb hB
  refine wpList_plain hgd fun _ hK => ?_
  unfold Oper.wp execOp
  simp only [ho, resolve, invoke, builtin, Sem.run_bind, Sem.run_pure, Result.andThen_ok, List.map_toArray, List.map_cons, List.map_nil, hs, hx, hr]
  exact hK _ _ (h v' w' h2 h3 h4)
def canB (p : Pt) : Bool := (!(decide (p.node < 0) || decide (8 ≤ p.node))) && ((!(decide (p.epoch < 0) || decide (5 < p.epoch))) && (decide (0 ≤ p.round) && decide (p.round < 4)))
theorem canB_of {L R : Nat} {p : Pt} (h : PtOk L R p) (hL : L ≤ 8) (hR : R ≤ 4) : canB p = true := by
  obtain ⟨n, e, s, h1, h2, h3, h4, h5, h6⟩ := h
  unfold canB
  rw [h1, h3, h5]
  simp
  omega
theorem pcanBe_any (p : Pt) (w : World) : Calls Tryz.prog 82 #[p.val] w fun e w' => e = .returned (.bool (canB p)) ∧ Bw w w' := by
  obtain ⟨n, o, ep, r, c⟩ := p
  simp only [Pt.val]
  have HC : Hid (canB ⟨n, o, ep, r, c⟩ = ((!(decide (n < 0) || decide (8 ≤ n))) && ((!(decide (ep < 0) || decide (5 < ep))) && (decide (0 ≤ r) && decide (r < 4))))) := qJ rfl
  generalize canB ⟨n, o, ep, r, c⟩ = cb at *
  cases h1 : decide (n < 0) with
  | true =>
    have Hs : Hid (cb = false) := qJ (by rw [qK HC, h1]; rfl)
    go_enter Tryz.func82, Tryz.ntmps82
    go_wp2_with fail
    go_ret
    exact ⟨ret_bool (qK Hs).symm, (by repeat first|exact br _|assumption|apply bd|apply bn|apply ba|refine bt ?_ (by assumption))⟩
  | false =>
    cases h2 : decide (8 ≤ n) with
    | true =>
      have Hs : Hid (cb = false) := qJ (by rw [qK HC, h1, h2]; rfl)
      go_enter Tryz.func82, Tryz.ntmps82
      go_wp2_with fail
      go_ret
      exact ⟨ret_bool (qK Hs).symm, (by repeat first|exact br _|assumption|apply bd|apply bn|apply ba|refine bt ?_ (by assumption))⟩
    | false =>
      cases h3 : decide (ep < 0) with
      | true =>
        have Hs : Hid (cb = false) := qJ (by rw [qK HC, h1, h2, h3]; rfl)
        go_enter Tryz.func82, Tryz.ntmps82
        go_wp2_with fail
        go_ret
        exact ⟨ret_bool (qK Hs).symm, (by repeat first|exact br _|assumption|apply bd|apply bn|apply ba|refine bt ?_ (by assumption))⟩
      | false =>
        cases h4 : decide (5 < ep) with
        | true =>
          have Hs : Hid (cb = false) := qJ (by rw [qK HC, h1, h2, h3, h4]; rfl)
          go_enter Tryz.func82, Tryz.ntmps82
          go_wp2_with fail
          go_ret
          exact ⟨ret_bool (qK Hs).symm, (by repeat first|exact br _|assumption|apply bd|apply bn|apply ba|refine bt ?_ (by assumption))⟩
        | false =>
          cases h5 : decide (0 ≤ r) with
          | false =>
            have Hs : Hid (cb = false) := qJ (by rw [qK HC, h1, h2, h3, h4, h5]; rfl)
            go_enter Tryz.func82, Tryz.ntmps82
            go_wp2_with fail
            go_ret
            exact ⟨ret_bool (qK Hs).symm, (by repeat first|exact br _|assumption|apply bd|apply bn|apply ba|refine bt ?_ (by assumption))⟩
          | true =>
            have Hs : Hid (cb = decide (r < 4)) := qJ (by rw [qK HC, h1, h2, h3, h4, h5]; rfl)
            go_enter Tryz.func82, Tryz.ntmps82
            go_wp2_with fail
            go_ret
            exact ⟨ret_bool (qK Hs).symm, (by repeat first|exact br _|assumption|apply bd|apply bn|apply ba|refine bt ?_ (by assumption))⟩
def plI (o : Bool) : Int := if o then 1 else 0
theorem pplaceOf_any (o : Bool) (w : World) : Calls Tryz.prog 83 #[.bool o] w fun e w' => e = .returned (.int .i64 (plI o)) ∧ w' = w := by
  cases o with
  | true =>
    go_enter Tryz.func83, Tryz.ntmps83
    go_wp2_with fail
    go_ret
    exact ⟨rfl, rfl⟩
  | false =>
    go_enter Tryz.func83, Tryz.ntmps83
    go_wp2_with fail
    go_ret
    exact ⟨rfl, rfl⟩
def BelAt (w : World) (b o : Nat) (T : Nat → Int) : Prop := b < w.heap.size ∧ ∀ k, k < 384 → w.cell? ⟨b, o + k, none⟩ = some (.int .i64 (T k))
theorem BelAt.below {w w' : World} {b o : Nat} {T : Nat → Int} (h : BelAt w b o T) (hb : Bw w w') : BelAt w' b o T := by
  obtain ⟨q, _⟩ := qS hb
  exact ⟨Nat.lt_of_lt_of_le h.1 hb.size, fun k hk => (q _ _ h.1).trans (h.2 k hk)⟩
theorem spot4_lt {n e s : Nat} {o : Bool} (hn : n < 8) (he : e < 6) (hs : s < 4) : kN 4 n e s o < 384 := spotN_lt (L := 8) hn he hs
theorem spot4_eq (n e s : Nat) (o : Bool) : kN 4 n e s o = n * 48 + (if o then 1 else 0) * 24 + e * 4 + s := by
  unfold kN
  cases o <;> simp <;> omega
theorem BelAt.cell {w : World} {b o : Nat} {T : Nat → Int} (h : BelAt w b o T) {n e s : Nat} {ou : Bool} (hn : n < 8) (he : e < 6) (hs : s < 4) : w.cell? ⟨b, o + n * 48 + (plI ou).toNat * 24 + e * 4 + s, none⟩ = some (.int .i64 (T (kN 4 n e s ou))) := by
  have := h.2 _ (spot4_lt (o := ou) hn he hs)
  rw [← this, spot4_eq]
  congr 2
  cases ou <;> simp [plI] <;> omega
theorem ppointsAt_any (b o : Nat) (T : Nat → Int) (n k : Nat) (w : World) (hn : n < 8) (hk : k < 2) (hb : BelAt w b o T) :
    Calls Tryz.prog 116 #[.pointer (some ⟨b, o, none⟩), .int .i64 (n : Int), .bool (kB k)] w fun e w' => ∃ v, e = .returned v ∧ OwnP w w' v (vE T 4 n k 6) ∧ Bw w w' := by
  have HB := qJ hb
  have hlt0 := hb.1
  clear hb
  generalize hkb : kB k = kb at *
  have Hkb := qJ hkb
  clear hkb
  have hn1 : (n : Int) < 8 := by omega
  go_enter Tryz.func116, Tryz.ntmps116
  go_wp2_with fail
  go_loopw [7, 8] (fun v i wr => ∃ e : Nat, e ≤ 6 ∧ i = .int .i64 e ∧ OwnP w wr v (vE T 4 n k e) ∧ Bw w wr) (fun _ i _ => 6 - (intOf i).toNat)
  case atStart => exact ⟨0, Nat.zero_le _, rfl, OwnP.nil _ _, Bw.refl _⟩
  case round =>
    obtain ⟨e, he, rfl, hown, hB⟩ := hrel
    rename World => wo
    have hle := vE_len T 4 n k e
    by_cases hlt : e < 6
    · have hl1 : decide ((e : Int) ≤ 5) = true := by simp; omega
      go_wp2_with fail
      go_loopw [7, 9] (fun v i wr => ∃ s : Nat, s ≤ 4 ∧ i = .int .i64 s ∧ OwnP w wr v (vE T 4 n k e ++ vS T 4 n k e s) ∧ Bw w wr) (fun _ i _ => 4 - (intOf i).toNat)
      case atStart => exact ⟨0, Nat.zero_le _, rfl, by simpa [vS] using hown, hB⟩
      case round =>
        clear hown hB
        obtain ⟨s, hs, rfl, hown, hB⟩ := hrel
        have hlS := vS_len T 4 n k e s
        have hle2 : (vE T 4 n k e ++ vS T 4 n k e s).length ≤ 1000 := by rw [List.length_append]; omega
        have hb' := (qK HB).below hB
        have hlt1 := hb'.1
        by_cases hslt : s < 4
        · have hc := hb'.cell (ou := kb) hn hlt hslt
          have Hs0 : Hid (vS T 4 n k e (s + 1) = if T (kN 4 n e s kb) == 0 then vS T 4 n k e s else vS T 4 n k e s ++ [⟨n, kb, e, s, T (kN 4 n e s kb)⟩]) := qJ (by rw [vS, qK Hkb])
          generalize T (kN 4 n e s kb) = tv at *
          have hs1 : decide ((s : Int) < 4) = true := by simp; omega
          have he1 : (e : Int) < 6 := by omega
          have hs2 : (s : Int) < 4 := by omega
          obtain ⟨p0, p1, hpl⟩ : 0 ≤ plI kb ∧ plI kb < 2 ∧ True := by cases kb <;> simp [plI]
          have Hpl := qJ (fun w => pplaceOf_any kb w)
          generalize plI kb = pl at *
          go_wp2_with fail
          go_quiet ((go_at_call 83; refine Calls.quiet_of_same (qK Hpl _)))
          cases htv : (tv == 0) with
          | true =>
            have htv' : (tv != 0) = false := by simpa using htv
            have Hs : Hid (vS T 4 n k e (s + 1) = vS T 4 n k e s) := qJ (by rw [qK Hs0, htv]; rfl)
            clear htv
            go_wp2_with fail
            go_roundw
            case rel => exact ⟨s + 1, by omega, by go_num, by rw [qK Hs]; exact hown.bw (by repeat first|exact br _|assumption|apply bd|apply bn|apply ba|refine bt ?_ (by assumption)), (by repeat first|exact br _|assumption|apply bd|apply bn|apply ba|refine bt ?_ (by assumption))⟩
            case measure => simp [intOf]; omega
          | false =>
            have htv' : (tv != 0) = true := by simpa using htv
            have Hs : Hid (vE T 4 n k e ++ vS T 4 n k e (s + 1) = (vE T 4 n k e ++ vS T 4 n k e s) ++ [⟨n, kb, e, s, tv⟩]) := qJ (by rw [qK Hs0, htv, List.append_assoc]; rfl)
            clear htv
            generalize vE T 4 n k e ++ vS T 4 n k e s = L at *
            go_wp2_with (at_builtin; refine appL _ rfl _ _ _ 67 rfl _ 5 40 Tryz.infoPoint Tryz.underlying63 rfl (by decide) w.heap.size _ L.length (qR L) rfl (hown.bw (by repeat first|exact br _|assumption|apply bd|apply bn|apply ba|refine bt ?_ (by assumption))) _ _ (Pt.cells ⟨n, kb, e, s, tv⟩) rfl rfl (xV (qQ (qY _ _ (by simp)) rfl) (qQ (qY _ _ (by simp)) rfl) (qQ (qY _ _ (by simp)) rfl) (qQ (qY _ _ (by simp)) rfl) (qQ (qY _ _ (by simp)) rfl)) (pt_one _) (by omega) (by omega) (Bw.size (by repeat first|exact br _|assumption|apply bd|apply bn|apply ba|refine bt ?_ (by assumption))) ?_; intro g6 cap6 w6 ho6 hg6 hl6; have hB6 := yK (W := w) (hown.bw (by repeat first|exact br _|assumption|apply bd|apply bn|apply ba|refine bt ?_ (by assumption))) hg6 (by repeat first|exact br _|assumption|apply bd|apply bn|apply ba|refine bt ?_ (by assumption)) (Nat.le_refl _))
            go_roundw
            case rel => exact ⟨s + 1, by omega, by go_num, by rw [qK Hs]; exact OwnP.snoc ho6, hB6⟩
            case measure => simp [intOf]; omega
        · have hss : s = 4 := by omega
          subst hss
          have Hs : Hid (vE T 4 n k (e + 1) = vE T 4 n k e ++ vS T 4 n k e 4) := qJ rfl
          go_wp2_with fail
          go_roundw
          case rel => exact ⟨e + 1, by omega, by go_num, by rw [qK Hs]; exact hown, hB⟩
          case measure => simp [intOf]; omega
    · have hee : e = 6 := by omega
      subst hee
      go_wp2_with fail
      go_ret
      exact ⟨_, rfl, hown, hB⟩
theorem kK {w w' : World} {base n size : Nat} {ty : TypeId} {v : Value} {xs : List Value} (h : w.ownsRow base ty size v n xs) (hf : ∀ b, v.ownBlock = some b → w'.heap[b]? = w.heap[b]?) : w'.ownsRow base ty size v n xs := by
  obtain ⟨hl, h⟩ := h
  refine ⟨hl, ?_⟩
  rcases h with h | ⟨g, cap, cur, rfl, hg, hc, r⟩
  · exact .inl h
  · exact .inr ⟨g, cap, cur, rfl, hg, (hf g rfl).trans hc, r⟩
theorem own_apart {w w' : World} {K base n size n' size' : Nat} {ty ty' : TypeId} {u v : Value} {xs ys : List Value} (hu : w.ownsRow base ty size u n xs) (hg : w.grownBy w' u.ownBlock) (hlt : ∀ b, u.ownBlock = some b → b < K) (hv : w.ownsRow K ty' size' v n' ys) : w'.ownsRow K ty' size' v n' ys :=
  kK hv fun b hb => hg.block b (World.ownsRow.lt hv b hb).2 (fun e => by have h1 := hlt b e.symm; have h2 := (World.ownsRow.lt hv b hb).1; omega)
theorem xS (a b : List Pt) : qR (a ++ b) = qR a ++ qR b := by simp [qR]
theorem zB (a : List Pt) : (qR a).length = a.length * 5 := by
  induction a with
  | nil => rfl
  | cons x l ih => simp only [qR, List.flatMap_cons, List.length_append, List.length_cons] at ih ⊢; rw [ih]; simp [Pt.cells]; omega
theorem pts_one (a : List Pt) : ∀ u ∈ qR a, u.oneCell' = true := by
  intro u hu
  simp only [qR, List.mem_flatMap] at hu
  obtain ⟨p, _, hp⟩ := hu
  exact pt_one p u hp
theorem jC {w : World} {base n size : Nat} {ty : TypeId} {v : Value} {xs : List Value} (h : w.ownsRow base ty size v n xs) : CellsAt w (kY v) n xs := by
  intro hn
  obtain ⟨g, e, _, hc⟩ := qB h hn
  exact ⟨g, 0, e, fun j u hj => by rw [Nat.zero_add]; exact hc j u hj⟩
theorem ppoints_any (b o : Nat) (T : Nat → Int) (w : World) (hb : BelAt w b o T) :
    Calls Tryz.prog 93 #[.pointer (some ⟨b, o, none⟩)] w fun e w' => ∃ v, e = .returned v ∧ OwnP w w' v (vN T 4 8) ∧ Bw w w' := by
  have HB := qJ hb
  clear hb
  have hk0 : kB 0 = false := rfl
  have hk1 : kB 1 = true := rfl
  go_enter Tryz.func93, Tryz.ntmps93
  go_wp2_with fail
  go_loopw [3, 4] (fun v i wr => ∃ n : Nat, n ≤ 8 ∧ i = .int .i64 n ∧ OwnP w wr v (vN T 4 n) ∧ Bw w wr) (fun _ i _ => 8 - (intOf i).toNat)
  case atStart => exact ⟨0, Nat.zero_le _, rfl, OwnP.nil _ _, Bw.refl _⟩
  case round =>
    obtain ⟨n, hn, rfl, hown, hB⟩ := hrel
    rename World => wr
    have hle := vN_len T 4 n
    by_cases hlt : n < 8
    · have hl1 : decide ((n : Int) < 8) = true := by simp; omega
      have P0 := qJ (fun w' h => hk0 ▸ ppointsAt_any b o T n 0 w' hlt (by omega) h)
      have P1 := qJ (fun w' h => hk1 ▸ ppointsAt_any b o T n 1 w' hlt (by omega) h)
      have Hs : Hid (vN T 4 (n + 1) = (vN T 4 n ++ vE T 4 n 0 6) ++ vE T 4 n 1 6) := qJ (by simp [vN, vK])
      have h0 := vE_len T 4 n 0 6
      have h1 := vE_len T 4 n 1 6
      generalize vE T 4 n 0 6 = A0 at *
      generalize vE T 4 n 1 6 = A1 at *
      generalize vN T 4 n = L at *
      have hblt : ∀ g, (Value.ownBlock _) = some g → g < wr.heap.size := fun g hg => (World.ownsRow.lt hown g hg).2
      go_wp2_with fail
      refine ((qK P0) _ ((qK HB).below hB)).mono ?_
      rintro e1 w1 ⟨v0, rfl, ho0, hb1⟩
      go_wp2_with fail
      refine ((qK P1) _ ((qK HB).below (hB.trans hb1))).mono ?_
      rintro e2 w2 ⟨v1, rfl, ho1, hb2⟩
      obtain ⟨a0, c0, hv0⟩ : ∃ a0 c0, v0 = .slice a0 A0.length c0 := ⟨_, _, qV ho0⟩
      subst hv0
      obtain ⟨a1, c1, hv1⟩ : ∃ a1 c1, v1 = .slice a1 A1.length c1 := ⟨_, _, qV ho1⟩
      subst hv1
      have hb12 := hb1.size
      go_wp2_with (first | (at_builtin; refine appG w2 rfl _ _ _ 67 rfl _ 5 40 Tryz.infoPoint Tryz.underlying63 rfl (by decide) w.heap.size _ L.length (qR L) rfl (hown.bw (hb1.trans hb2)) _ A0.length _ (qR A0) rfl (zB A0) (jC (ho0.bw hb2)) (pts_one A0) (by omega) (by omega) (hB.trans (hb1.trans hb2)).size ?_; intro v3 w3 ho3 hg3 hl3; have hB3 := yK (W := w) (hown.bw (hb1.trans hb2)) hg3 (hB.trans (hb1.trans hb2)) (Nat.le_refl _); have hc3 := jC (own_apart (hown.bw (hb1.trans hb2)) hg3 (fun g hg => Nat.lt_of_lt_of_le (hblt g hg) hb12) ho1)) | (at_builtin; refine appG w3 rfl _ _ _ 67 rfl _ 5 40 Tryz.infoPoint Tryz.underlying63 rfl (by decide) w.heap.size _ (L.length + A0.length) (qR L ++ qR A0) rfl ho3 _ A1.length _ (qR A1) rfl (zB A1) hc3 (pts_one A1) (by omega) (by omega) hB3.size ?_; intro v4 w4 ho4 hg4 hl4; have hB4 := yK (W := w) ho3 hg4 hB3 (Nat.le_refl _)))
      go_roundw
      case rel =>
        refine ⟨n + 1, by omega, by go_num, ?_, hB4⟩
        rw [qK Hs]
        unfold OwnP
        rw [xS, xS, List.length_append, List.length_append]
        exact ho4
      case measure => simp [intOf]; omega
    · have hnn : n = 8 := by omega
      subst hnn
      go_wp2_with fail
      go_ret
      exact ⟨_, rfl, hown, hB⟩
end Go.Proofs.YtfemleimkbjehaaGreat
