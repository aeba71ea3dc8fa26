import Derived.Test.YtfemleimkbjehaaGreatJ5
set_option maxRecDepth 1000000
set_option maxHeartbeats 40000000
set_option linter.unusedVariables false
set_option linter.unusedSimpArgs false
namespace Go.Proofs.YtfemleimkbjehaaGreat
open Go.RowKit
structure Ml where
  worker : Int
  node : Int
  epoch : Int
  round : Int
  value : Int
  gone : Bool
def Ml.cells (x : Ml) : List Value := [.int .i64 x.worker, .int .i64 x.node, .int .i64 x.epoch, .int .i64 x.round, .int .i64 x.value, .bool x.gone]
def xX (l : List Ml) (k : Nat) : Ml := l.getD k ⟨0, 0, 0, 0, 0, false⟩
structure Pt where
  node : Int
  out : Bool
  epoch : Int
  round : Int
  count : Int
def Pt.cells (x : Pt) : List Value := [.int .i64 x.node, .bool x.out, .int .i64 x.epoch, .int .i64 x.round, .int .i64 x.count]
def Pt.val (x : Pt) : Value := .agg #[.int .i64 x.node, .bool x.out, .int .i64 x.epoch, .int .i64 x.round, .int .i64 x.count]
def jN (l : List Pt) (k : Nat) : Pt := l.getD k ⟨0, false, 0, 0, 0⟩
structure Cg where
  worker : Int
  pts : List Pt
def jF (l : List Cg) (k : Nat) : Cg := l.getD k ⟨0, []⟩
def MailsAt (w : World) (ad : Option Addr) (ms : List Ml) : Prop :=
  ∀ i, i < ms.length → ∃ b off, ad = some ⟨b, off, none⟩ ∧ b < w.heap.size ∧ ∀ j, j < ms.length →
    w.cell? ⟨b, off + j * 6, none⟩ = some (.int .i64 (xX ms j).worker) ∧ w.cell? ⟨b, off + j * 6 + 1, none⟩ = some (.int .i64 (xX ms j).node) ∧ w.cell? ⟨b, off + j * 6 + 2, none⟩ = some (.int .i64 (xX ms j).epoch) ∧
    w.cell? ⟨b, off + j * 6 + 3, none⟩ = some (.int .i64 (xX ms j).round) ∧ w.cell? ⟨b, off + j * 6 + 4, none⟩ = some (.int .i64 (xX ms j).value) ∧ w.cell? ⟨b, off + j * 6 + 5, none⟩ = some (.bool (xX ms j).gone)
theorem MailsAt.below {w w' : World} {ad : Option Addr} {ms : List Ml} (h : MailsAt w ad ms) (hb : Bw w w') : MailsAt w' ad ms := by
  intro i hi
  obtain ⟨b, off, e, hlt, hc⟩ := h i hi
  refine ⟨b, off, e, Nat.lt_of_lt_of_le hlt hb.size, fun j hj => ?_⟩
  obtain ⟨q, _⟩ := qS hb
  obtain ⟨c0, c1, c2, c3, c4, c5⟩ := hc j hj
  exact ⟨(q _ _ hlt).trans c0, (q _ _ hlt).trans c1, (q _ _ hlt).trans c2, (q _ _ hlt).trans c3, (q _ _ hlt).trans c4, (q _ _ hlt).trans c5⟩
def PtsAt (w : World) (ad : Option Addr) (ps : List Pt) : Prop :=
  ∀ i, i < ps.length → ∃ b off, ad = some ⟨b, off, none⟩ ∧ b < w.heap.size ∧ ∀ j, j < ps.length →
    w.cell? ⟨b, off + j * 5, none⟩ = some (.int .i64 (jN ps j).node) ∧ w.cell? ⟨b, off + j * 5 + 1, none⟩ = some (.bool (jN ps j).out) ∧ w.cell? ⟨b, off + j * 5 + 2, none⟩ = some (.int .i64 (jN ps j).epoch) ∧
    w.cell? ⟨b, off + j * 5 + 3, none⟩ = some (.int .i64 (jN ps j).round) ∧ w.cell? ⟨b, off + j * 5 + 4, none⟩ = some (.int .i64 (jN ps j).count)
theorem PtsAt.below {w w' : World} {ad : Option Addr} {ps : List Pt} (h : PtsAt w ad ps) (hb : Bw w w') : PtsAt w' ad ps := by
  intro i hi
  obtain ⟨b, off, e, hlt, hc⟩ := h i hi
  refine ⟨b, off, e, Nat.lt_of_lt_of_le hlt hb.size, fun j hj => ?_⟩
  obtain ⟨q, _⟩ := qS hb
  obtain ⟨c0, c1, c2, c3, c4⟩ := hc j hj
  exact ⟨(q _ _ hlt).trans c0, (q _ _ hlt).trans c1, (q _ _ hlt).trans c2, (q _ _ hlt).trans c3, (q _ _ hlt).trans c4⟩
def LogAt (w : World) (ad : Option Addr) (cs : List Cg) : Prop :=
  ∀ i, i < cs.length → ∃ b off, ad = some ⟨b, off, none⟩ ∧ b < w.heap.size ∧ ∀ j, j < cs.length →
    w.cell? ⟨b, off + j * 2, none⟩ = some (.int .i64 (jF cs j).worker) ∧ ∃ pa pc, w.cell? ⟨b, off + j * 2 + 1, none⟩ = some (.slice pa (jF cs j).pts.length pc) ∧ PtsAt w pa (jF cs j).pts
theorem LogAt.below {w w' : World} {ad : Option Addr} {cs : List Cg} (h : LogAt w ad cs) (hb : Bw w w') : LogAt w' ad cs := by
  intro i hi
  obtain ⟨b, off, e, hlt, hc⟩ := h i hi
  refine ⟨b, off, e, Nat.lt_of_lt_of_le hlt hb.size, fun j hj => ?_⟩
  obtain ⟨q, _⟩ := qS hb
  obtain ⟨c0, pa, pc, c1, hp⟩ := hc j hj
  exact ⟨(q _ _ hlt).trans c0, pa, pc, (q _ _ hlt).trans c1, hp.below hb⟩
def TabAt (w : World) (ad : Option Addr) (n m : Nat) (f : Nat → Nat → Int) : Prop :=
  ∀ i, i < n → ∃ b off, ad = some ⟨b, off, none⟩ ∧ b < w.heap.size ∧ ∃ pb poff pc, w.cell? ⟨b, off + i, none⟩ = some (.slice (some ⟨pb, poff, none⟩) m pc) ∧ pb < w.heap.size ∧ ∀ j, j < m → w.cell? ⟨pb, poff + j, none⟩ = some (.int .i64 (f i j))
theorem TabAt.below {w w' : World} {ad : Option Addr} {n m : Nat} {f : Nat → Nat → Int} (h : TabAt w ad n m f) (hb : Bw w w') : TabAt w' ad n m f := by
  intro i hi
  obtain ⟨b, off, e, hlt, pb, poff, pc, c1, hpl, hc⟩ := h i hi
  obtain ⟨q, _⟩ := qS hb
  exact ⟨b, off, e, Nat.lt_of_lt_of_le hlt hb.size, pb, poff, pc, (q _ _ hlt).trans c1, Nat.lt_of_lt_of_le hpl hb.size, fun j hj => (q _ _ hpl).trans (hc j hj)⟩
structure RSt where
  mails : List Ml
  log : List Cg
  evs : List Ev
  opened : List Gv
  told : Nat → Nat → Int
structure RV where
  na : Option Addr
  ma : Option Addr
  la : Option Addr
  ea : Option Addr
  oa : Option Addr
  ta : Option Addr
  da : Option Addr
  nc : Nat
  mc : Nat
  lc : Nat
  ec : Nat
  oc : Nat
  tc : Nat
  dc : Nat
structure RRead (w : World) (rb : Nat) (x : RV) (ns : List Nd) (R W : Nat) (D : Nat → Nat → Int) (st : RSt) : Prop where
  lt : rb < w.heap.size
  c0 : w.cell? ⟨rb, 0, none⟩ = some (.slice x.na ns.length x.nc)
  c1 : w.cell? ⟨rb, 1, none⟩ = some (.int .i64 (R : Int))
  c2 : w.cell? ⟨rb, 2, none⟩ = some (.int .i64 (W : Int))
  c3 : w.cell? ⟨rb, 3, none⟩ = some (.slice x.ma st.mails.length x.mc)
  c4 : w.cell? ⟨rb, 4, none⟩ = some (.slice x.la st.log.length x.lc)
  c5 : w.cell? ⟨rb, 5, none⟩ = some (.slice x.ea st.evs.length x.ec)
  c6 : w.cell? ⟨rb, 6, none⟩ = some (.slice x.oa st.opened.length x.oc)
  c7 : w.cell? ⟨rb, 7, none⟩ = some (.slice x.ta W x.tc)
  c8 : w.cell? ⟨rb, 8, none⟩ = some (.slice x.da ns.length x.dc)
  nodes : NodesAt w x.na ns
  mails : MailsAt w x.ma st.mails
  log : LogAt w x.la st.log
  evs : EvsAt w x.ea st.evs
  opened : GvAt w x.oa st.opened
  told : TabAt w x.ta W W st.told
  dist : TabAt w x.da ns.length ns.length D
  small : ns.length ≤ 8 ∧ R ≤ 4 ∧ W ≤ 4 ∧ 1 ≤ W ∧ 1 ≤ R
  few : st.opened.length ≤ 100000000 ∧ st.mails.length ≤ 100000000 ∧ st.log.length ≤ 100000000 ∧ st.evs.length ≤ 100000000
theorem RRead.below {w w' : World} {rb : Nat} {x : RV} {ns : List Nd} {R W : Nat} {D : Nat → Nat → Int} {st : RSt} (h : RRead w rb x ns R W D st) (hb : Bw w w') : RRead w' rb x ns R W D st := by
  obtain ⟨q, _⟩ := qS hb
  have hl := h.lt
  exact ⟨Nat.lt_of_lt_of_le hl hb.size, (q _ _ hl).trans h.c0, (q _ _ hl).trans h.c1, (q _ _ hl).trans h.c2, (q _ _ hl).trans h.c3, (q _ _ hl).trans h.c4, (q _ _ hl).trans h.c5, (q _ _ hl).trans h.c6, (q _ _ hl).trans h.c7, (q _ _ hl).trans h.c8,
    h.nodes.below hb, h.mails.below hb, h.log.below hb, h.evs.below hb, h.opened.below hb, h.told.below hb, h.dist.below hb, h.small, h.few⟩
def doneB (op : List Gv) (w n kd : Int) (i : Nat) : Bool := ((vR op i).epoch == w) && ((vR op i).node == n) && ((vR op i).value == kd)
def qC (op : List Gv) (w n kd : Int) : Nat → Nat
  | 0 => 0
  | i + 1 => if doneB op w n kd i then qC op w n kd i + 1 else qC op w n kd i
theorem doneTo_le (op : List Gv) (w n kd : Int) (k : Nat) : qC op w n kd k ≤ k := by
  induction k with
  | zero => simp [qC]
  | succ k ih => unfold qC; split <;> omega
theorem doneTo_yes {op : List Gv} {w n kd : Int} {i : Nat} (h : doneB op w n kd i = true) : qC op w n kd (i + 1) = qC op w n kd i + 1 := by rw [qC, if_pos h]
theorem doneTo_no {op : List Gv} {w n kd : Int} {i : Nat} (h : doneB op w n kd i = false) : qC op w n kd (i + 1) = qC op w n kd i := by rw [qC, h]; rfl
theorem rdone_any {rb : Nat} {x : RV} {ns : List Nd} {R W : Nat} {D : Nat → Nat → Int} {st : RSt} (wk n kd : Int) (w : World) (hR : RRead w rb x ns R W D st) :
    Calls Tryz.prog 58 #[.pointer (some ⟨rb, 0, none⟩), .int .i64 wk, .int .i64 n, .int .i64 kd] w fun e w' => e = .returned (.int .i64 (qC st.opened wk n kd st.opened.length : Nat)) ∧ w' = w := by
  have c6 := hR.c6
  have hl := hR.few.1
  have hlt0 := hR.lt
  have hop := hR.opened
  clear hR
  obtain ⟨ms, lg, ev, op, tl⟩ := st
  simp only at *
  go_enter Tryz.func58, Tryz.ntmps58
  go_wp2_with fail
  go_loop [9, 10] (fun c i => ∃ k : Nat, k ≤ op.length ∧ i = .int .i64 k ∧ c = .int .i64 (qC op wk n kd k : Nat)) (fun _ i => op.length - (intOf i).toNat)
  case atStart => exact ⟨0, Nat.zero_le _, rfl, rfl⟩
  case round =>
    obtain ⟨k, hk, rfl, rfl⟩ := hrel
    have hle := doneTo_le op wk n kd k
    by_cases hlt : k < op.length
    · obtain ⟨b, off, e, hb, hc⟩ := hop k hlt
      obtain ⟨d0, d1, d2⟩ := hc k hlt
      rw [e] at c6
      clear hc
      have Hy := qJ (@doneTo_yes op wk n kd k)
      have Hn := qJ (@doneTo_no op wk n kd k)
      have Hd : Hid (doneB op wk n kd k = (((vR op k).epoch == wk) && ((vR op k).node == n) && ((vR op k).value == kd))) := qJ rfl
      generalize vR op k = y at *
      generalize hdb : doneB op wk n kd k = db at Hd Hy Hn
      clear hdb
      cases h1 : (y.epoch == wk) with
      | false =>
        have Hs := qJ ((qK Hn) (by rw [qK Hd, h1]; rfl))
        clear Hy Hn Hd
        go_wp2_with fail
        go_round
        case rel => exact ⟨k + 1, by omega, by go_num, by rw [qK Hs]⟩
        case measure => simp [intOf]; omega
      | true =>
        cases h2 : (y.node == n) with
        | false =>
          have Hs := qJ ((qK Hn) (by rw [qK Hd, h1, h2]; rfl))
          clear Hy Hn Hd
          go_wp2_with fail
          go_round
          case rel => exact ⟨k + 1, by omega, by go_num, by rw [qK Hs]⟩
          case measure => simp [intOf]; omega
        | true =>
          cases h3 : (y.value == kd) with
          | false =>
            have Hs := qJ ((qK Hn) (by rw [qK Hd, h1, h2, h3]; rfl))
            clear Hy Hn Hd
            go_wp2_with fail
            go_round
            case rel => exact ⟨k + 1, by omega, by go_num, by rw [qK Hs]⟩
            case measure => simp [intOf]; omega
          | true =>
            have Hs := qJ ((qK Hy) (by rw [qK Hd, h1, h2, h3]; rfl))
            clear Hy Hn Hd
            go_wp2_with fail
            go_round
            case rel => exact ⟨k + 1, by omega, by go_num, by rw [qK Hs]; go_num⟩
            case measure => simp [intOf]; omega
    · have hkk : k = op.length := by omega
      subst hkk
      go_wp2_with fail
      go_ret
      exact ⟨rfl, rfl⟩
def Gv.cells (x : Gv) : List Value := [.int .i64 x.node, .int .i64 x.epoch, .int .i64 x.value]
def qH (gv : List Gv) : List Value := gv.flatMap Gv.cells
theorem gvCells_get (gv : List Gv) : ∀ j, j < gv.length → ∀ f, f < 3 → (qH gv)[j * 3 + f]? = (Gv.cells (vR gv j))[f]? := by
  induction gv with
  | nil => intro j hj; simp at hj
  | cons x t ih =>
    intro j hj f hf
    cases j with
    | zero =>
      simp only [qH, List.flatMap_cons, Nat.zero_mul, Nat.zero_add]
      rw [List.getElem?_append_left (by simp [Gv.cells]; omega)]
      rfl
    | succ j =>
      simp only [qH, List.flatMap_cons]
      rw [List.getElem?_append_right (by simp [Gv.cells]; omega)]
      have := ih j (by simpa using hj) f hf
      simp only [qH] at this
      rw [show (j + 1) * 3 + f - (Gv.cells x).length = j * 3 + f by simp [Gv.cells]; omega, this]
      rfl
theorem gvCells_one (gv : List Gv) : ∀ u ∈ qH gv, u.oneCell' = true := by
  intro u hu
  simp only [qH, List.mem_flatMap, Gv.cells] at hu
  obtain ⟨x, _, hu⟩ := hu
  simp at hu
  rcases hu with rfl | rfl | rfl <;> rfl
theorem gv_cells {w : World} {g : Nat} {x : Gv} (h0 : w.cell? ⟨g, 0, none⟩ = some (.int .i64 x.node)) (h1 : w.cell? ⟨g, 1, none⟩ = some (.int .i64 x.epoch)) (h2 : w.cell? ⟨g, 2, none⟩ = some (.int .i64 x.value)) : ∀ j u, x.cells[j]? = some u → w.cell? ⟨g, j, none⟩ = some u := by
  intro j u hj
  unfold Gv.cells at hj
  match j, hj with
  | 0, hj => simp at hj; subst hj; exact h0
  | 1, hj => simp at hj; subst hj; exact h1
  | 2, hj => simp at hj; subst hj; exact h2
theorem gv_one (x : Gv) : ∀ u ∈ x.cells, u.oneCell' = true := fun u hu => gvCells_one [x] u (by simpa [qH] using hu)
theorem gvCells_snoc (gv : List Gv) (x : Gv) : qH (gv ++ [x]) = qH gv ++ x.cells := by simp [qH]
def OwnG (ty : TypeId) (W w : World) (v : Value) (xs : List Gv) : Prop := w.ownsRow W.heap.size ty 3 v xs.length (qH xs)
theorem OwnG.nil (ty : TypeId) (W w : World) : OwnG ty W w (.slice none 0 0) [] := World.ownsRow_nil _ _ _ _
theorem OwnG.bw {ty : TypeId} {W a b : World} {v : Value} {xs : List Gv} (h : OwnG ty W a v xs) (hb : Bw a b) : OwnG ty W b v xs := qX h fun g hg => Below.block hb g hg
theorem OwnG.weaken {ty : TypeId} {W V a : World} {v : Value} {xs : List Gv} (h : OwnG ty W a v xs) (hb : Bw V W) : OwnG ty V a v xs := qM h hb.size
theorem OwnG.snoc {ty : TypeId} {W w : World} {v : Value} {xs : List Gv} {x : Gv} (h : w.ownsRow W.heap.size ty 3 v (xs.length + 1) (qH xs ++ x.cells)) : OwnG ty W w v (xs ++ [x]) := by
  unfold OwnG; rw [gvCells_snoc, List.length_append]; exact h
theorem stepT {ops : Array Oper} {o : Oper} {a : Act} {w : World} {K : Act → World → Prop} {Q : Exit → Act → World → Prop} {E : Prop} (hgd : o.guard = none) (s y : Operand) (t ty : TypeId)
    (ho : o.op = .call { callee := .builtin .append, args := #[s, y], argTypes := #[t, t] }) (z : Value) (size bytes : Nat) (hinf : (Tryz.prog.info? ty).map (fun i => (i.zero, i.size, i.bytes)) = some (some z, size, bytes)) (hund : Tryz.prog.underlying t = some (.slice ty)) (hzs : z.cells.size = size) (hsz : 0 < size)
    (base : Nat) (v : Value) (n : Nat) (xs : List Value) (hs : a.eval s = v) (hown : w.ownsRow base ty size v n xs)
    (g c : Nat) (news : List Value) (hx : a.eval y = .slice (some ⟨g, 0, none⟩) 1 c) (hnl : news.length = size) (hc : ∀ j u, news[j]? = some u → w.cell? ⟨g, j, none⟩ = some u) (h1 : ∀ u ∈ news, u.oneCell' = true) (hl1 : n + 1 ≤ 1000000000) (hb : bytes ≤ 1000) (hB : base ≤ w.heap.size)
    (h : ∀ v' w', w'.ownsRow base ty size v' (n + 1) (xs ++ news) → w.grownBy w' v.ownBlock → K (a.put o.dst v') w') :
    if Region.wanted o (yielded ops a.tmps) = true then Oper.wp Tryz.prog o a w K Q else E := by
  obtain ⟨v', w', hr, h2, h3⟩ := run_appT w t ty o.type z size bytes hinf hund hzs hsz base v n xs hown g c news hnl hc h1 hl1 hb hB
  have hw : Region.wanted o (yielded ops a.tmps) = true := by simp [Region.wanted, hgd]
  rw [if_pos hw]
  unfold Oper.wp
  simp only [execOp, ho, resolve, invoke, builtin, Sem.run_bind, Sem.run_pure, Result.andThen_ok, List.map_toArray, List.map_cons, List.map_nil, hs, hx, hr]
  exact h v' w' h2 h3
def zJ (len W : Nat) (w n : Int) : Bool := (decide (0 ≤ w) && decide (w < W)) && (decide (0 ≤ n) && decide (n < len))
theorem rplace_any {rb : Nat} {x : RV} {ns : List Nd} {R W : Nat} {D : Nat → Nat → Int} {st : RSt} (wk n : Int) (w : World) (hR : RRead w rb x ns R W D st) :
    Calls Tryz.prog 63 #[.pointer (some ⟨rb, 0, none⟩), .int .i64 wk, .int .i64 n] w fun e w' => e = .returned (.bool (zJ ns.length W wk n)) ∧ w' = w := by
  have c0 := hR.c0
  have c2 := hR.c2
  have hlt0 := hR.lt
  clear hR
  have Hp : Hid (zJ ns.length W wk n = ((decide (0 ≤ wk) && decide (wk < W)) && (decide (0 ≤ n) && decide (n < ns.length)))) := qJ rfl
  cases h1 : decide (0 ≤ wk) with
  | false =>
    have Hs : Hid (zJ ns.length W wk n = false) := qJ (by rw [qK Hp, h1]; rfl)
    go_enter Tryz.func63, Tryz.ntmps63
    go_wp2_with fail
    go_ret
    exact ⟨ret_bool (qK Hs).symm, rfl⟩
  | true =>
    cases h2 : decide (wk < W) with
    | false =>
      have Hs : Hid (zJ ns.length W wk n = false) := qJ (by rw [qK Hp, h1, h2]; rfl)
      go_enter Tryz.func63, Tryz.ntmps63
      go_wp2_with fail
      go_ret
      exact ⟨ret_bool (qK Hs).symm, rfl⟩
    | true =>
      cases h3 : decide (0 ≤ n) with
      | false =>
        have Hs : Hid (zJ ns.length W wk n = false) := qJ (by rw [qK Hp, h1, h2, h3]; rfl)
        go_enter Tryz.func63, Tryz.ntmps63
        go_wp2_with fail
        go_ret
        exact ⟨ret_bool (qK Hs).symm, rfl⟩
      | true =>
        have Hs : Hid (zJ ns.length W wk n = decide (n < (ns.length : Int))) := qJ (by rw [qK Hp, h1, h2, h3]; simp)
        go_enter Tryz.func63, Tryz.ntmps63
        go_wp2_with fail
        go_ret
        exact ⟨ret_bool (qK Hs).symm, rfl⟩
def kS (ns : List Nd) (W : Nat) (op : List Gv) (w n : Int) : Int :=
  if zJ ns.length W w n then (if (qT ns n.toNat).kind == 0 then (if decide (0 < qC op w n 3 op.length) then 4 else 0) else 3) else 3
theorem placeB_iff {len W : Nat} {w n : Int} : zJ len W w n = true ↔ (0 ≤ w ∧ w < W) ∧ (0 ≤ n ∧ n < len) := by simp [zJ]
theorem placeB_no {len W : Nat} {w n : Int} (h : ¬ ((0 ≤ w ∧ w < W) ∧ (0 ≤ n ∧ n < len))) : zJ len W w n = false := by
  cases e : zJ len W w n with
  | false => rfl
  | true => exact absurd (placeB_iff.1 e) h
theorem rsource_any {rb : Nat} {x : RV} {ns : List Nd} {R W : Nat} {D : Nat → Nat → Int} {st : RSt} (wk n : Int) (w : World) (hR : RRead w rb x ns R W D st) :
    Calls Tryz.prog 57 #[.pointer (some ⟨rb, 0, none⟩), .int .i64 wk, .int .i64 n] w fun e w' => e = .returned (.int .i64 (kS ns W st.opened wk n)) ∧ w' = w := by
  have c0 := hR.c0
  have c2 := hR.c2
  have hlt0 := hR.lt
  have hsm := hR.small
  have hnd := hR.nodes
  have HR := qJ hR
  clear hR
  have Hno : Hid (¬ ((0 ≤ wk ∧ wk < W) ∧ (0 ≤ n ∧ n < ns.length)) → kS ns W st.opened wk n = 3) := qJ (fun h => by unfold kS; rw [placeB_no h]; rfl)
  have Hyes : Hid ((0 ≤ wk ∧ wk < W) ∧ (0 ≤ n ∧ n < ns.length) → kS ns W st.opened wk n = (if (qT ns n.toNat).kind == 0 then (if decide (0 < qC st.opened wk n 3 st.opened.length) then 4 else 0) else 3)) := qJ (fun h => by unfold kS; rw [placeB_iff.2 h]; rfl)
  by_cases h1 : wk < 0
  · have d1 : decide (wk < 0) = true := by simpa using h1
    have He := qJ ((qK Hno) (by omega))
    go_enter Tryz.func57, Tryz.ntmps57
    go_wp2_with fail
    go_ret
    exact ⟨qF (qK He).symm, rfl⟩
  · have d1 : decide (wk < 0) = false := by simpa using h1
    by_cases h2 : (W : Int) ≤ wk
    · have d2 : decide ((W : Int) ≤ wk) = true := by simpa using h2
      have He := qJ ((qK Hno) (by omega))
      clear h1 h2
      go_enter Tryz.func57, Tryz.ntmps57
      go_wp2_with fail
      go_ret
      exact ⟨qF (qK He).symm, rfl⟩
    · have d2 : decide ((W : Int) ≤ wk) = false := by simpa using h2
      by_cases h3 : n < 0
      · have d3 : decide (n < 0) = true := by simpa using h3
        have He := qJ ((qK Hno) (by omega))
        clear h1 h2 h3
        go_enter Tryz.func57, Tryz.ntmps57
        go_wp2_with fail
        go_ret
        exact ⟨qF (qK He).symm, rfl⟩
      · have d3 : decide (n < 0) = false := by simpa using h3
        by_cases h4 : (ns.length : Int) ≤ n
        · have d4 : decide ((ns.length : Int) ≤ n) = true := by simpa using h4
          have He := qJ ((qK Hno) (by omega))
          clear h1 h2 h3 h4
          go_enter Tryz.func57, Tryz.ntmps57
          go_wp2_with fail
          go_ret
          exact ⟨qF (qK He).symm, rfl⟩
        · obtain ⟨k, rfl⟩ := Int.eq_ofNat_of_zero_le (a := n) (by omega)
          have hk : k < ns.length := by omega
          have d3' : decide ((k : Int) < 0) = false := by simp
          have d4 : decide ((ns.length : Int) ≤ (k : Int)) = false := by simp; omega
          have d5 : decide (ns.length ≤ k) = false := by simp; omega
          have Hy := qJ ((qK Hyes) (by omega))
          rw [Int.toNat_natCast] at Hy
          clear h1 h2 h3 h4 Hno Hyes
          obtain ⟨b, off, e, hb, hc⟩ := hnd k hk
          have n0 := (hc k hk).1
          rw [e] at c0
          clear hc
          cases k0 : ((qT ns k).kind == 0) with
          | false =>
            have k0n : ((qT ns k).kind != 0) = true := by simp [bne, k0]
            have He : Hid (kS ns W st.opened wk k = 3) := qJ (by rw [qK Hy, k0]; rfl)
            clear k0 Hy
            go_enter Tryz.func57, Tryz.ntmps57
            go_wp2_with fail
            go_ret
            exact ⟨qF (qK He).symm, rfl⟩
          | true =>
            have k0n : ((qT ns k).kind != 0) = false := by simp [bne, k0]
            have Hd := qJ (fun w' h => rdone_any wk (k : Int) 3 w' (h : RRead w' rb x ns R W D st))
            by_cases h5 : 0 < qC st.opened wk k 3 st.opened.length
            · have He : Hid (kS ns W st.opened wk k = 4) := qJ (by rw [qK Hy, k0, show decide (0 < qC st.opened wk k 3 st.opened.length) = true by simpa using h5]; rfl)
              clear k0 Hy
              generalize qC st.opened wk k 3 st.opened.length = dn at *
              go_enter Tryz.func57, Tryz.ntmps57
              go_wp2_with (go_at_call 58; refine ((qK Hd) _ (qK HR)).mono ?_; rintro e w' ⟨rfl, rfl⟩)
              go_ret
              exact ⟨qF (qK He).symm, rfl⟩
            · have h50 : qC st.opened wk k 3 st.opened.length = 0 := by omega
              have He : Hid (kS ns W st.opened wk k = 0) := qJ (by rw [qK Hy, k0, h50]; rfl)
              rw [h50] at Hd
              clear k0 Hy h5 h50
              go_enter Tryz.func57, Tryz.ntmps57
              go_wp2_with (go_at_call 58; refine ((qK Hd) _ (qK HR)).mono ?_; rintro e w' ⟨rfl, rfl⟩)
              go_ret
              exact ⟨qF (qK He).symm, rfl⟩
def xK (ms : List Ml) (w n : Int) (i : Nat) : Bool := !(xX ms i).gone && ((xX ms i).worker == w) && ((xX ms i).node == n)
def kJ (ms : List Ml) (w n : Int) : Nat → List Int
  | 0 => []
  | i + 1 => if xK ms w n i then kJ ms w n i ++ [(i : Int)] else kJ ms w n i
theorem waitTo_len (ms : List Ml) (w n : Int) (k : Nat) : (kJ ms w n k).length ≤ k := by
  induction k with
  | zero => simp [kJ]
  | succ k ih => unfold kJ; split <;> (try simp) <;> omega
theorem waitTo_yes {ms : List Ml} {w n : Int} {i : Nat} (h : xK ms w n i = true) : kJ ms w n (i + 1) = kJ ms w n i ++ [(i : Int)] := by rw [kJ, if_pos h]
theorem waitTo_no {ms : List Ml} {w n : Int} {i : Nat} (h : xK ms w n i = false) : kJ ms w n (i + 1) = kJ ms w n i := by rw [kJ, h]; rfl
theorem waitTo_mem {ms : List Ml} {w n : Int} {k : Nat} : ∀ z ∈ kJ ms w n k, ∃ i : Nat, z = i ∧ i < k := by
  induction k with
  | zero => intro z hz; simp [kJ] at hz
  | succ k ih =>
    intro z hz
    unfold kJ at hz
    split at hz
    · rcases List.mem_append.1 hz with hz | hz
      · obtain ⟨i, e, hi⟩ := ih z hz; exact ⟨i, e, by omega⟩
      · simp at hz; exact ⟨k, hz, by omega⟩
    · obtain ⟨i, e, hi⟩ := ih z hz; exact ⟨i, e, by omega⟩
theorem rwaits_any {rb : Nat} {x : RV} {ns : List Nd} {R W : Nat} {D : Nat → Nat → Int} {st : RSt} (wk n : Int) (w : World) (hR : RRead w rb x ns R W D st) :
    Calls Tryz.prog 44 #[.pointer (some ⟨rb, 0, none⟩), .int .i64 wk, .int .i64 n] w fun e w' => ∃ v, e = .returned v ∧ Own w w' v (kJ st.mails wk n st.mails.length) ∧ Bw w w' := by
  have hl := hR.few.2.1
  have HR := qJ hR
  clear hR
  obtain ⟨ms, lg, ev, op, tl⟩ := st
  simp only at *
  go_enter Tryz.func44, Tryz.ntmps44
  go_wp2_with fail
  go_loopw [7, 8] (fun v i wr => ∃ k : Nat, k ≤ ms.length ∧ i = .int .i64 k ∧ Own w wr v (kJ ms wk n k) ∧ Bw w wr) (fun _ i _ => ms.length - (intOf i).toNat)
  case atStart => exact ⟨0, Nat.zero_le _, rfl, Own.nil _ _, Bw.refl _⟩
  case round =>
    obtain ⟨k, hk, rfl, hown, hB⟩ := hrel
    have hln := waitTo_len ms wk n k
    have hR2 := (qK HR).below hB
    have c3 := hR2.c3
    have hlt0 := hR2.lt
    have hml := hR2.mails
    clear hR2
    simp only at c3 hml
    by_cases hlt : k < ms.length
    · obtain ⟨b, off, e, hb, hc⟩ := hml k hlt
      obtain ⟨d0, d1, d2, d3, d4, d5⟩ := hc k hlt
      rw [e] at c3
      clear hc hml
      have Hy := qJ (@waitTo_yes ms wk n k)
      have Hn := qJ (@waitTo_no ms wk n k)
      have Hd : Hid (xK ms wk n k = (!(xX ms k).gone && ((xX ms k).worker == wk) && ((xX ms k).node == n))) := qJ rfl
      generalize xX ms k = y at *
      generalize hdb : xK ms wk n k = db at Hd Hy Hn
      clear hdb
      cases h1 : y.gone with
      | true =>
        have Hs := qJ ((qK Hn) (by rw [qK Hd, h1]; rfl))
        clear Hy Hn Hd
        rw [h1] at d5
        go_wp2_with fail
        go_roundw
        case rel => exact ⟨k + 1, by omega, by go_num, by rw [qK Hs]; exact hown.bw (by repeat first|exact br _|assumption|apply bd|apply bn|apply ba|refine bt ?_ (by assumption)), (by repeat first|exact br _|assumption|apply bd|apply bn|apply ba|refine bt ?_ (by assumption))⟩
        case measure => simp [intOf]; omega
      | false =>
        rw [h1] at d5
        cases h2 : (y.worker == wk) with
        | false =>
          have Hs := qJ ((qK Hn) (by rw [qK Hd, h1, h2]; rfl))
          clear Hy Hn Hd
          go_wp2_with fail
          go_roundw
          case rel => exact ⟨k + 1, by omega, by go_num, by rw [qK Hs]; exact hown.bw (by repeat first|exact br _|assumption|apply bd|apply bn|apply ba|refine bt ?_ (by assumption)), (by repeat first|exact br _|assumption|apply bd|apply bn|apply ba|refine bt ?_ (by assumption))⟩
          case measure => simp [intOf]; omega
        | true =>
          cases h3 : (y.node == n) with
          | false =>
            have Hs := qJ ((qK Hn) (by rw [qK Hd, h1, h2, h3]; rfl))
            clear Hy Hn Hd
            go_wp2_with fail
            go_roundw
            case rel => exact ⟨k + 1, by omega, by go_num, by rw [qK Hs]; exact hown.bw (by repeat first|exact br _|assumption|apply bd|apply bn|apply ba|refine bt ?_ (by assumption)), (by repeat first|exact br _|assumption|apply bd|apply bn|apply ba|refine bt ?_ (by assumption))⟩
            case measure => simp [intOf]; omega
          | true =>
            have Hs := qJ ((qK Hy) (by rw [qK Hd, h1, h2, h3]; rfl))
            clear Hy Hn Hd
            go_wp2_with (at_builtin; refine app1B _ rfl _ _ rfl _ _ (kJ ms wk n k) rfl (hown.bw (by repeat first|exact br _|assumption|apply bd|apply bn|apply ba|refine bt ?_ (by assumption))) _ _ (k : Int) rfl (by simp) (by omega) (by repeat first|exact br _|assumption|apply bd|apply bn|apply ba|refine bt ?_ (by assumption)) ?_; intro v' w1 hown1 hB1 hgr1)
            go_roundw
            case rel => exact ⟨k + 1, by omega, by go_num, by rw [qK Hs]; exact hown1, hB1⟩
            case measure => simp [intOf]; omega
    · have hkk : k = ms.length := by omega
      subst hkk
      go_wp2_with fail
      go_ret
      exact ⟨_, rfl, hown, hB⟩
theorem Tryz.infoMessage : (Tryz.prog.info? 62).map (fun i => (i.zero, i.size, i.bytes)) = some (some (.agg #[.int .i64 0, .int .i64 0, .int .i64 0]), 3, 24) := by kernel_rfl
def xJ (m : Ml) : Gv := ⟨m.epoch, m.round, m.value⟩
def jQ (ms : List Ml) (w n : Int) : List Gv := (kJ ms w n ms.length).map fun z => xJ (xX ms z.toNat)
def waitE (len W : Nat) (w n : Int) : Int := if zJ len W w n then 0 else 3
def waitR (ms : List Ml) (len W : Nat) (w n : Int) : List Gv := if zJ len W w n then jQ ms w n else []
theorem rwaiting_any {rb : Nat} {x : RV} {ns : List Nd} {R W : Nat} {D : Nat → Nat → Int} {st : RSt} (wk n : Int) (w : World) (hR : RRead w rb x ns R W D st) :
    Calls Tryz.prog 35 #[.pointer (some ⟨rb, 0, none⟩), .int .i64 wk, .int .i64 n] w fun e w' => ∃ v, e = .returned (.tuple #[v, .int .i64 (waitE ns.length W wk n)]) ∧ OwnG 62 w w' v (waitR st.mails ns.length W wk n) ∧ Bw w w' := by
  have HR := qJ hR
  have hl := hR.few.2.1
  clear hR
  cases hp : zJ ns.length W wk n with
  | false =>
    have Hp := qJ hp
    have He : Hid (waitE ns.length W wk n = 3) := qJ (by unfold waitE; rw [hp]; rfl)
    have Hr : Hid (waitR st.mails ns.length W wk n = []) := qJ (by unfold waitR; rw [hp]; rfl)
    clear hp
    go_enter Tryz.func35, Tryz.ntmps35
    go_wp2_with (go_at_call 63; refine (rplace_any wk n _ (qK HR)).mono ?_; rintro e w' ⟨rfl, rfl⟩; rw [qK Hp])
    go_ret2
    exact ⟨.slice none 0 0, by rw [qK He]; rfl, by rw [qK Hr]; exact OwnG.nil _ _ _, Bw.refl _⟩
  | true =>
    have Hp := qJ hp
    have He : Hid (waitE ns.length W wk n = 0) := qJ (by unfold waitE; rw [hp]; rfl)
    have Hr : Hid (waitR st.mails ns.length W wk n = jQ st.mails wk n) := qJ (by unfold waitR; rw [hp]; rfl)
    have Hw := qJ (fun w' h => rwaits_any wk n w' (h : RRead w' rb x ns R W D st))
    have Hmem := qJ (@waitTo_mem st.mails wk n st.mails.length)
    have hlen := waitTo_len st.mails wk n st.mails.length
    have HL : Hid (jQ st.mails wk n = (kJ st.mails wk n st.mails.length).map fun z => xJ (xX st.mails z.toNat)) := qJ rfl
    generalize kJ st.mails wk n st.mails.length = ws at *
    clear hp
    go_enter Tryz.func35, Tryz.ntmps35
    go_wp2_with (go_at_call 63; refine (rplace_any wk n _ (qK HR)).mono ?_; rintro e w' ⟨rfl, rfl⟩; rw [qK Hp])
    refine ((qK Hw) _ (qK HR)).mono ?_
    rintro en w1 ⟨v, rfl, ho, hB1⟩
    obtain ⟨wa, wc, rfl, hwc⟩ := ho.slice
    have hwi := ho.ints.1
    clear ho
    go_wp2_with fail
    go_loopw [9, 11] (fun v i wr => ∃ k : Nat, k ≤ ws.length ∧ i = .int .i64 k ∧ OwnG 62 w1 wr v ((ws.take k).map fun z => xJ (xX st.mails z.toNat)) ∧ Bw w1 wr) (fun _ i _ => ws.length - (intOf i).toNat)
    case atStart => exact ⟨0, Nat.zero_le _, rfl, by simp only [List.take_zero, List.map_nil]; exact OwnG.nil _ _ _, Bw.refl _⟩
    case round =>
      obtain ⟨k, hk, rfl, hown, hB⟩ := hrel
      have hR2 := (qK HR).below (hB1.trans hB)
      have c3 := hR2.c3
      have hlt0 := hR2.lt
      have hml := hR2.mails
      clear hR2
      by_cases hlt : k < ws.length
      · obtain ⟨m, em, hm⟩ := (qK Hmem) (jD ws k) (nth_mem hlt)
        obtain ⟨b2, off2, rfl, hb2, hc2⟩ := (hwi.below hB) k hlt
        have d := hc2 k hlt
        rw [em] at d
        obtain ⟨b, off, e, hb, hc⟩ := hml m hm
        obtain ⟨d0, d1, d2, d3, d4, d5⟩ := hc m hm
        rw [e] at c3
        have Hs : Hid (((ws.take (k + 1)).map fun z => xJ (xX st.mails z.toNat)) = ((ws.take k).map fun z => xJ (xX st.mails z.toNat)) ++ [xJ (xX st.mails m)]) := qJ (by rw [take_nth hlt, List.map_append, em]; simp)
        have hLk : ((ws.take k).map fun z => xJ (xX st.mails z.toNat)).length + 1 ≤ 1000000000 := by rw [List.length_map, List.length_take]; omega
        have HLk := qJ hLk
        clear hc hc2 hml em hLk
        have hj1 : (0 : Int) ≤ (k : Int) := by omega
        have hj2 : (k : Int) < (ws.length : Int) := by omega
        have hj3 : (0 : Int) ≤ (m : Int) := by omega
        have hj4 : (m : Int) < (st.mails.length : Int) := by omega
        generalize ((ws.take k).map fun z => xJ (xX st.mails z.toNat)) = L at *
        go_wp2_with fail
        go_region_law (refine stepT rfl _ _ _ 62 rfl _ 3 24 Tryz.infoMessage Tryz.underlying58 rfl (by decide) w1.heap.size _ L.length (qH L) rfl (hown.bw (by repeat first|exact br _|assumption|apply bd|apply bn|apply ba|refine bt ?_ (by assumption))) _ _ (Gv.cells (xJ (xX st.mails m))) rfl rfl (gv_cells (by simp; rfl) (by simp; rfl) (by simp; rfl)) (gv_one _) (qK HLk) (by omega) (Bw.size (by repeat first|exact br _|assumption|apply bd|apply bn|apply ba|refine bt ?_ (by assumption))) ?_; intro v' w4 ho4 hg4)
        all_goals go_wp2_with fail
        all_goals go_roundw
        all_goals first | exact ⟨k + 1, by omega, by go_num, by rw [qK Hs]; exact OwnG.snoc ho4, Bw.grown (by repeat first|exact br _|assumption|apply bd|apply bn|apply ba|refine bt ?_ (by assumption)) (hown.bw (by repeat first|exact br _|assumption|apply bd|apply bn|apply ba|refine bt ?_ (by assumption))) hg4 (Nat.le_refl _)⟩ | (simp [intOf]; omega)
      · have hkk : k = ws.length := by omega
        subst hkk
        rw [List.take_length] at hown
        go_wp2_with fail
        go_ret2
        exact ⟨_, by rw [qK He]; rfl, by rw [qK Hr, qK HL]; exact hown.weaken hB1, hB1.trans hB⟩
def kN (R node epoch round : Nat) (out : Bool) : Nat := ((2 * node + (if out then 1 else 0)) * 6 + epoch) * R + round
theorem spotN_lt {R L node epoch round : Nat} {out : Bool} (hn : node < L) (he : epoch < 6) (hr : round < R) : kN R node epoch round out < 2 * L * 6 * R := by
  unfold kN
  have h1 : (2 * node + (if out then 1 else 0)) * 6 + epoch + 1 ≤ 2 * L * 6 := by split <;> omega
  calc ((2 * node + (if out then 1 else 0)) * 6 + epoch) * R + round < ((2 * node + (if out then 1 else 0)) * 6 + epoch) * R + R := by omega
    _ = ((2 * node + (if out then 1 else 0)) * 6 + epoch + 1) * R := by rw [Nat.add_mul _ 1 R, Nat.one_mul]
    _ ≤ 2 * L * 6 * R := Nat.mul_le_mul_right _ h1
theorem spot_wrap {R node epoch round o : Nat} (ho : o ≤ 1) (hn : node < 8) (he : epoch < 6) (hr : round < R) (hR : R ≤ 4) : wrap64 (wrap64 (((2 * (node : Int) + o) * 6 + epoch) * R) + round) = ((((2 * node + o) * 6 + epoch) * R + round : Nat) : Int) := by
  have h1 : ((2 * (node : Int) + o) * 6 + epoch) * R = ((((2 * node + o) * 6 + epoch) * R : Nat) : Int) := by simp
  have h2 : ((2 * node + o) * 6 + epoch) * R ≤ 200 * 4 := Nat.mul_le_mul (by omega) hR
  have h3 : wrap64 ((((2 * node + o) * 6 + epoch) * R : Nat) : Int) = ((((2 * node + o) * 6 + epoch) * R : Nat) : Int) := by
    generalize ((2 * node + o) * 6 + epoch) * R = P at *
    unfold wrap64; omega
  rw [h1, h3]
  generalize ((2 * node + o) * 6 + epoch) * R = P at *
  unfold wrap64
  omega
theorem rspot_any {rb : Nat} {x : RV} {ns : List Nd} {R W : Nat} {D : Nat → Nat → Int} {st : RSt} (node epoch round : Nat) (out : Bool) (ct : Int) (w : World) (hR : RRead w rb x ns R W D st) (hn : node < ns.length) (he : epoch < 6) (hr : round < R) :
    Calls Tryz.prog 66 #[.pointer (some ⟨rb, 0, none⟩), .agg #[.int .i64 (node : Int), .bool out, .int .i64 (epoch : Int), .int .i64 (round : Int), .int .i64 ct]] w fun e w' => e = .returned (.int .i64 (kN R node epoch round out : Nat)) ∧ Bw w w' := by
  have c1 := hR.c1
  have hlt0 := hR.lt
  obtain ⟨s1, s2, s3, s4, s5⟩ := hR.small
  clear hR
  cases out with
  | false =>
    have Hs : Hid (wrap64 (wrap64 ((2 * (node : Int) * 6 + epoch) * R) + round) = (kN R node epoch round false : Nat)) := qJ (by
      have := spot_wrap (o := 0) (by omega) (show node < 8 by omega) he hr s2
      simpa [kN] using this)
    go_enter Tryz.func66, Tryz.ntmps66
    go_wp2_with fail
    go_quiet (fail)
    go_wp2_with fail
    go_ret
    exact ⟨qF (qK Hs), (by repeat first|exact br _|assumption|apply bd|apply bn|apply ba|refine bt ?_ (by assumption))⟩
  | true =>
    have Hs : Hid (wrap64 (wrap64 (((2 * (node : Int) + 1) * 6 + epoch) * R) + round) = (kN R node epoch round true : Nat)) := qJ (by
      have := spot_wrap (o := 1) (by omega) (show node < 8 by omega) he hr s2
      simpa [kN] using this)
    go_enter Tryz.func66, Tryz.ntmps66
    go_wp2_with fail
    go_quiet (fail)
    go_wp2_with fail
    go_ret
    exact ⟨qF (qK Hs), (by repeat first|exact br _|assumption|apply bd|apply bn|apply ba|refine bt ?_ (by assumption))⟩
end Go.Proofs.YtfemleimkbjehaaGreat
