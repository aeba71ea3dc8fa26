import Derived.Test.YtfemleimkbjehaaJ18
set_option maxRecDepth 1000000
set_option maxHeartbeats 40000000
set_option linter.unusedVariables false
set_option linter.unusedSimpArgs false
namespace Go.Proofs.Ytfemleimkbjehaa
open Go.RowKit
def lbB (l : List Gv) (y : Gv) (k : Nat) : Bool := ((vR l k).node == y.node) && (((vR l k).epoch == y.epoch) && ((vR l k).value == y.value))
def wH (l : List Gv) (y : Gv) : Nat → Bool
  | 0 => false
  | k + 1 => wH l y k || lbB l y k
theorem lbTo_hit {l : List Gv} {y : Gv} {i : Nat} (h : lbB l y i = true) : ∀ k, i < k → wH l y k = true := by
  intro k hk
  induction k with
  | zero => omega
  | succ k ih =>
    unfold wH
    by_cases e : i = k
    · subst e; rw [h]; simp
    · rw [ih (by omega)]; rfl
theorem lbTo_no {l : List Gv} {y : Gv} {i : Nat} (h : wH l y i = false) (h2 : lbB l y i = false) : wH l y (i + 1) = false := by rw [wH, h, h2]; rfl
def tB (st : PSt) (i n : Nat) (y : Gv) : PSt := if wH (st.lb i n) y (st.lb i n).length then st else { st with lb := kY st.lb i n (st.lb i n ++ [y]) }
set_option maxRecDepth 100000 in
set_option maxHeartbeats 8000000 in
theorem plets_any {S : Nat → Prop} {pb : Nat} {x : PX} {ns : List Nd} {R W : Nat} {D : Nat → Nat → Int} {st : PSt} (i n : Nat) (e r v : Int) (w : World) (hO : POwn w S pb x ns R W D st) (hi : i < W) (hn : n < ns.length) (hf : (st.lb i n).length + 1 ≤ 100000000) :
    Calls Try.prog 153 #[.pointer (some ⟨pb, 0, none⟩), .int .i64 (i : Int), .int .i64 (n : Int), .agg #[.int .i64 e, .int .i64 r], .int .i64 v] w fun en w' => en = .returned (.bool (!wH (st.lb i n) ⟨e, r, v⟩ (st.lb i n).length)) ∧ POwn.After w w' S pb ns R W D (tB st i n ⟨e, r, v⟩) := by
  have h8 := hO.small
  obtain ⟨u, hq, hu⟩ := hO.row.letb i n hi hn
  obtain ⟨qa, qc, hqe⟩ : ∃ qa qc, u = .slice qa (st.lb i n).length qc := ⟨_, _, qW hu.1⟩
  subst hqe
  have c3 := qQ (o := 3) hO.root hO.r3
  have cq := qQ (o := i * 3684 + 24 + n) hO.work hq
  have lt0 := hO.slt _ hO.sroot
  have lt1 := hO.slt _ hO.swork
  have hi1 : (i : Int) < (W : Int) := by omega
  have hn8 : (n : Int) < 8 := by omega
  have HO := qJ hO
  have Hq := qJ hq
  have Hu := qJ hu
  have Hgv := qJ (show GvAt w qa (st.lb i n) from fJ hu.1)
  have HS : Hid (tB st i n ⟨e, r, v⟩ = if wH (st.lb i n) ⟨e, r, v⟩ (st.lb i n).length then st else { st with lb := kY st.lb i n (st.lb i n ++ [⟨e, r, v⟩]) }) := qJ rfl
  obtain ⟨L, hL⟩ : ∃ L, st.lb i n = L := ⟨_, rfl⟩
  rw [hL] at cq Hq Hu Hgv HS hf
  rw [hL]
  have HL := qJ hL
  have HnS : Hid (∀ z, w.heap.size ≤ z → ¬ S z) := qJ (fun z hz h => by have := hO.slt z h; omega)
  clear hO hq hu hL
  go_enter Try.func153, Try.ntmps153
  go_wp2_with fail
  obtain ⟨w0, hw0⟩ : ∃ w0, (w.alloc (.cells #[.int .i64 e, .int .i64 r] 75)).alloc (.cells #[.int .i64 e, .int .i64 r, .int .i64 v] 117) = w0 := ⟨_, rfl⟩
  have hA := yU w (.cells #[.int .i64 e, .int .i64 r] 75) (.cells #[.int .i64 e, .int .i64 r, .int .i64 v] 117)
  rw [hw0] at hA
  rw [hw0]
  obtain ⟨ht0, hm0, hB0⟩ := hA
  clear hw0 ht0
  go_loopw [34] (fun j wr => ∃ k : Nat, k ≤ L.length ∧ j = .int .i64 k ∧ wH L ⟨e, r, v⟩ k = false ∧ Bw w0 wr) (fun j _ => L.length - (intOf j).toNat)
  case atStart => exact ⟨0, Nat.zero_le _, rfl, rfl, Bw.refl _⟩
  case round =>
    clear c3 cq
    obtain ⟨k, hk, rfl, hno, hBr⟩ := hrel
    rename World => wr
    have hB := hB0.trans hBr
    have hmr := (Below.block hBr _ (Array.getElem?_eq_some_iff.1 hm0).1).trans hm0
    have m0 := qQ (o := 0) hmr rfl
    have m1 := qQ (o := 1) hmr rfl
    have m2 := qQ (o := 2) hmr rfl
    have mlt := (Array.getElem?_eq_some_iff.1 hmr).1
    by_cases hlt : k < L.length
    · have hk1 : (k : Int) < (L.length : Int) := by omega
      obtain ⟨gb, goff, rfl, hgb, hgc⟩ := ((qK Hgv).below hB) k hlt
      obtain ⟨g0, g1, g2⟩ := hgc k hlt
      have Hno := qJ (@lbTo_no L ⟨e, r, v⟩ k hno)
      have Hyes := qJ (fun h => @lbTo_hit L ⟨e, r, v⟩ k h L.length hlt)
      have Hd : Hid (lbB L ⟨e, r, v⟩ k = (((vR L k).node == e) && (((vR L k).epoch == r) && ((vR L k).value == v)))) := qJ rfl
      generalize vR L k = y at *
      generalize hdb : lbB L ⟨e, r, v⟩ k = db at Hd Hno Hyes
      clear hdb hgc hmr
      cases h0 : (y.node == e) with
      | false =>
        have Hs := qJ ((qK Hno) (by rw [qK Hd, h0]; rfl))
        clear Hno Hyes Hd
        go_wp2_with fail
        all_goals (
          go_roundw
          case rel => exact ⟨k + 1, by omega, by go_num, qK Hs, (by repeat first|exact br _|assumption|apply bd|apply bn|apply ba|refine bt ?_ (by assumption))⟩
          case measure => simp [intOf]; omega)
      | true =>
        cases h1 : (y.epoch == r) with
        | false =>
          have Hs := qJ ((qK Hno) (by rw [qK Hd, h0, h1]; rfl))
          clear Hno Hyes Hd
          go_wp2_with fail
          all_goals (
            go_roundw
            case rel => exact ⟨k + 1, by omega, by go_num, qK Hs, (by repeat first|exact br _|assumption|apply bd|apply bn|apply ba|refine bt ?_ (by assumption))⟩
            case measure => simp [intOf]; omega)
        | true =>
          cases h2 : (y.value == v) with
          | false =>
            have Hs := qJ ((qK Hno) (by rw [qK Hd, h0, h1, h2]; rfl))
            clear Hno Hyes Hd
            go_wp2_with fail
            all_goals (
              go_roundw
              case rel => exact ⟨k + 1, by omega, by go_num, qK Hs, (by repeat first|exact br _|assumption|apply bd|apply bn|apply ba|refine bt ?_ (by assumption))⟩
              case measure => simp [intOf]; omega)
          | true =>
            have Hs := qJ ((qK Hyes) (by rw [qK Hd, h0, h1, h2]; rfl))
            clear Hno Hyes Hd
            go_wp2_with fail
            go_ret
            refine ⟨ret_bool (by rw [qK Hs]; rfl), ?_⟩
            rw [qK HS, qK Hs, if_pos rfl]
            have hBw : Bw w (wr.alloc (.cells #[.int .i64 y.node, .int .i64 y.epoch, .int .i64 y.value] 117)) := hB.trans (by repeat first|exact br _|assumption|apply bd|apply bn|apply ba|refine bt ?_ (by assumption))
            exact ⟨S, x, (qK HO).bw hBw, Chg.bw hBw, fun _ h => .inl h⟩
    · have hkk : k = L.length := by omega
      subst hkk
      have hk1 : ¬ (L.length : Int) < (L.length : Int) := by omega
      have hOr := (qK HO).bw hB
      have c3 := qQ (o := 3) hOr.root hOr.r3
      have cq := qQ (o := i * 3684 + 24 + n) hOr.work (qK Hq)
      have l0 := hOr.slt _ hOr.sroot
      have l1 := hOr.slt _ hOr.swork
      have HOr := qJ hOr
      have Hs := qJ hno
      have hz := hB.size
      clear hOr hmr hno
      go_wp2_with fail
      go_region_law (refine pF rfl _ _ _ 117 rfl _ 3 24 Try.infoMessage Try.underlying70 rfl (by decide) 0 (.slice qa L.length qc) L.length (qB L) rfl (qP (qK Hu).1 fun g hg => Below.block (hB.trans (show Bw wr _ from (by repeat first|exact br _|assumption|apply bd|apply bn|apply ba|refine bt ?_ (by assumption)))) g hg) _ _ (Gv.cells ⟨e, r, v⟩) rfl rfl (pT (qQ (qN _ _ (by simp)) rfl) (qQ (qN _ _ (by simp)) rfl) (qQ (qN _ _ (by simp)) rfl)) (cJ _) (by omega) (by omega) (Nat.zero_le _) ?_; intro g' cap w4 ho4 hg4 hl4; have q4 := kZ (qP (qK Hu).1 fun g hg => Below.block (hB.trans (show Bw wr _ from (by repeat first|exact br _|assumption|apply bd|apply bn|apply ba|refine bt ?_ (by assumption)))) g hg) hg4 ((qK HOr).bw (show Bw wr _ from (by repeat first|exact br _|assumption|apply bd|apply bn|apply ba|refine bt ?_ (by assumption)))).work (.inl (by decide)); have q7 := qQ q4 (qK Hq); have q7f := qZ (o := i * 3684 + 24 + n) q4; have q7l := (Array.getElem?_eq_some_iff.1 q4).1; clear q4)
      all_goals (
        obtain ⟨wB, hwB, hBB⟩ : ∃ wB, wB = (wr.alloc (.cells #[.int .i64 e, .int .i64 r, .int .i64 v] 117)).drew ∧ Bw wr wB := ⟨_, rfl, (by repeat first|exact br _|assumption|apply bd|apply bn|apply ba|refine bt ?_ (by assumption))⟩
        rw [← hwB] at hg4 hl4
        have hvB := qP (qK Hu).1 fun g hg => Below.block (hB.trans hBB) g hg
        have hO5 := (qK HOr).lets (y := ⟨e, r, v⟩) (qK HL) hi hn hBB (qK Hq) hvB ho4 hg4 hl4 hf
        obtain ⟨x1, x2, _⟩ := bS (S := S) (S' := S) (w := w) (q := i * 3684 + 24 + n) (u := .slice (some ⟨g', 0, none⟩) (L.length + 1) cap) (Chg.bw hB) (fun _ h => .inl h) hBB hg4 (qK Hu).2 (qK HOr).swork hl4
        go_wp2_with fail
        go_ret
        refine ⟨ret_bool (by rw [qK Hs]; rfl), ?_⟩
        rw [qK HS, qK Hs, if_neg (by simp)]
        exact ⟨_, _, hO5, x1, x2⟩)
def wkM (ns : List Nd) (y : Ev) : Gv := ⟨y.epoch, if (qV ns y.node.toNat).kind == 4 then y.round + 1 else y.round, wrap64 (y.value + gR (qV ns y.node.toNat))⟩
def wkU (ns : List Nd) (R : Nat) (evs : List Ev) (y : Ev) : Bool :=
  if (qV ns y.node.toNat).kind == 2 then y.value % (qV ns y.node.toNat).k == (qV ns y.node.toNat).m
  else if (qV ns y.node.toNat).kind == 4 then decide (y.round + 1 < (R : Int))
  else if (qV ns y.node.toNat).kind == 5 then !pP evs y evs.length
  else if (qV ns y.node.toNat).kind == 6 then false
  else if (qV ns y.node.toNat).kind == 7 then false
  else true
def wkQ (ns : List Nd) (evs : List Ev) (y : Ev) : List Pt :=
  if (qV ns y.node.toNat).kind == 6 && (jS evs y.worker y.node y.epoch y.round evs.length).length == 0 then [⟨y.node, false, y.epoch, y.round, -1⟩, ⟨y.node, true, y.epoch, y.round, 1⟩] else [⟨y.node, false, y.epoch, y.round, -1⟩]
def workS (ns : List Nd) (R W : Nat) (st : RSt) (y : Ev) (z : Nat) : RSt :=
  { st with mails := zG st.mails z ++ (if wkU ns R st.evs y then tW ns W y.worker y.node (wkM ns y) ns.length else []), log := st.log ++ [⟨y.worker, wkQ ns st.evs y ++ (if wkU ns R st.evs y then jX ns y.node (wkM ns y) ns.length else [])⟩] }
def nK (ns : List Nd) (n e s : Nat) (l : List Int) : Nat → List Pt
  | 0 => [⟨n, true, e, s, -1⟩]
  | j + 1 => nK ns n e s l j ++ jX ns n ⟨e, s, kC l j⟩ ns.length
def ntM (ns : List Nd) (W a n e s : Nat) (l : List Int) : Nat → List Ml
  | 0 => []
  | j + 1 => ntM ns W a n e s l j ++ tW ns W a n ⟨e, s, kC l j⟩ ns.length
def dP (ns : List Nd) (st : RSt) (a n e s : Nat) : List Int := kD (jS st.evs a n e s st.evs.length) (qV ns n).k (qV ns n).k.toNat
def fP (ns : List Nd) (W : Nat) (st : RSt) (a n e s : Nat) : RSt :=
  { st with mails := st.mails ++ ntM ns W a n e s (dP ns st a n e s) (dP ns st a n e s).length, log := st.log ++ [⟨a, nK ns n e s (dP ns st a n e s) (dP ns st a n e s).length⟩] }
def doneS (ns : List Nd) (R W : Nat) (st : RSt) (y : Ev) : RSt :=
  if y.kind == 3 then { st with told := zX st.told y.worker.toNat y.index.toNat }
  else if y.kind == 2 then fP ns W st y.worker.toNat y.node.toNat y.epoch.toNat y.round.toNat
  else workS ns R W st y (kC (kS st.mails y.worker y.node st.mails.length) y.index.toNat).toNat
def lQ (ns : List Nd) (R W : Nat) (st : RSt) (y : Ev) : RSt := { doneS ns R W st y with evs := st.evs ++ [y] }
theorem ntM_len (ns : List Nd) (W a n e s : Nat) (l : List Int) (k : Nat) : (ntM ns W a n e s l k).length ≤ k * ns.length := by
  induction k with
  | zero => simp [ntM]
  | succ k ih => have := putM_len ns W a n ⟨e, s, kC l k⟩ ns.length; rw [ntM, List.length_append, Nat.add_mul]; omega
theorem adL_len (ns : List Nd) (st : RSt) (a n e s : Nat) : (dP ns st a n e s).length ≤ (qV ns n).k.toNat := by
  unfold dP
  rw [grpTo_of]
  exact cK _ _ _
def pH (ns : List Nd) (n e s : Nat) (v : Int) : Gv := ⟨e, if (qV ns n).kind == 4 then (s : Int) + 1 else s, if (qV ns n).kind == 1 then wrap64 (v + (qV ns n).k) else v⟩
def rN (ns : List Nd) (R : Nat) (lb : List Gv) (n e s : Nat) (v : Int) : Bool :=
  if (qV ns n).kind == 1 then true else if (qV ns n).kind == 2 then v % (qV ns n).k == (qV ns n).m else if (qV ns n).kind == 3 then true
  else if (qV ns n).kind == 4 then decide ((s : Int) + 1 < R) else if (qV ns n).kind == 5 then !wH lb ⟨e, s, v⟩ lb.length else false
def yP (f : Nat → Value) (e s : Nat) (v q : Int) : Nat → Value := fun k => if k = e * 4 + s then .bool true else if k = 24 + e * 64 + s * 16 + 8 + (v % q).toNat then .bool true else if k = 24 + e * 64 + s * 16 + (v % q).toNat then .int .i64 (wrap64 (intOf (f (24 + e * 64 + s * 16 + (v % q).toNat)) + v)) else f k
def vX (f : Nat → Value) (e s : Nat) : Nat → Value := fun k => if k = e * 4 + s then .bool false else if 24 + e * 64 + s * 16 ≤ k ∧ k < 24 + e * 64 + s * 16 + 8 then .int .i64 0 else if 24 + e * 64 + s * 16 + 8 ≤ k ∧ k < 24 + e * 64 + s * 16 + 16 then .bool false else f k
def hH (ns : List Nd) (R W : Nat) (p : PSt) (i n e s : Nat) (v : Int) : PSt :=
  { p with wt := if rN ns R (p.lb i n) n e s v then jB ns W i n (pH ns n e s v) p.wt ns.length else p.wt, lb := if (qV ns n).kind == 5 then (tB p i n ⟨e, s, v⟩).lb else p.lb, tl := if (qV ns n).kind == 6 then kY p.tl i n (yP (p.tl i n) e s v (qV ns n).k) else p.tl, rc := if (qV ns n).kind == 7 then p.rc ++ [⟨n, i, e, s, v⟩] else p.rc }
def tK (ns : List Nd) (R : Nat) (p : PSt) (i n e s : Nat) (v : Int) : List Pt :=
  if (qV ns n).kind == 6 then (if wnOf (p.tl i n) (e * 4 + s) then [] else [⟨n, true, e, s, 1⟩]) else if rN ns R (p.lb i n) n e s v then jX ns n (pH ns n e s v) ns.length else []
def wU (W : Nat) (p : PSt) (i : Nat) (q : List Pt) : PSt := { p with tb := pZ p.tb i (kT 4 (p.tb i) q q.length), wy := jR p.wy i q W }
def jJ (p : PSt) (i n j : Nat) : PSt := { p with wt := kY p.wt i n ((p.wt i n).eraseIdx j) }
def xQ (ns : List Nd) (R W : Nat) (p : PSt) (i n e s : Nat) (v : Int) : PSt := wU W (hH ns R W p i n e s v) i (⟨n, false, e, s, -1⟩ :: tK ns R p i n e s v)
def ntW (ns : List Nd) (W i n e s : Nat) (l : List Int) (wt : Nat → Nat → List Gv) : Nat → (Nat → Nat → List Gv)
  | 0 => wt
  | j + 1 => jB ns W i n ⟨e, s, kC l j⟩ (ntW ns W i n e s l wt j) ns.length
def xK (f : Nat → Value) (e s : Nat) : List Int := vY (fun g => intOf (f (24 + e * 64 + s * 16 + g))) (fun g => wnOf f (24 + e * 64 + s * 16 + 8 + g)) 8
def yB (ns : List Nd) (W : Nat) (p : PSt) (i n e s : Nat) : PSt := wU W { p with tl := kY p.tl i n (vX (p.tl i n) e s), wt := ntW ns W i n e s (xK (p.tl i n) e s) p.wt (xK (p.tl i n) e s).length } i (nK ns n e s (xK (p.tl i n) e s) (xK (p.tl i n) e s).length)
def zF (p : PSt) (i j : Nat) : PSt := { p with tb := pZ p.tb i (kT 4 (p.tb i) ((p.wy i j).getD 0 []) ((p.wy i j).getD 0 []).length), wy := kY p.wy i j ((p.wy i j).drop 1) }
def yJ (ns : List Nd) (R W : Nat) (p : PSt) (y : Ev) : PSt :=
  if y.kind == 1 then xQ ns R W (jJ p y.worker.toNat y.node.toNat y.index.toNat) y.worker.toNat y.node.toNat y.epoch.toNat y.round.toNat y.value
  else if y.kind == 2 then yB ns W p y.worker.toNat y.node.toNat y.epoch.toNat y.round.toNat
  else zF p y.worker.toNat y.index.toNat
structure PInv (ns : List Nd) (R : Nat) (p : PSt) (B : Nat) : Prop where
  ep : ∀ a b, ∃ k : Nat, p.ep a b = k ∧ k < 6
  gv : 0 ≤ p.gv ∧ p.gv ≤ 1000
  wt : ∀ a b, ∀ m ∈ p.wt a b, ∃ e s : Nat, m.node = e ∧ e < 6 ∧ m.epoch = s ∧ s < R ∧ -9223372036854775808 ≤ m.value ∧ m.value ≤ 9223372036854775807
  wn : ∀ a b k, k < 24 → ∃ t, p.tl a b k = .bool t
  w6 : ∀ a b k, k < 24 → (qV ns b).kind ≠ 6 → p.tl a b k = .bool false
  gs : ∀ a b, (qV ns b).kind = 6 → ∀ e s g, e < 6 → s < 4 → g < 8 → (∃ t, p.tl a b (24 + e * 64 + s * 16 + g) = .int .i64 t) ∧ ∃ t, p.tl a b (24 + e * 64 + s * 16 + 8 + g) = .bool t
  wy : ∀ a b, ∀ c ∈ p.wy a b, c.length ≤ 1000 ∧ ∀ q ∈ c, wP 8 4 q
  few : ∀ a b, (p.wt a b).length ≤ B ∧ (p.lb a b).length ≤ B ∧ (p.wy a b).length ≤ B
  rcs : p.rc.length ≤ B
theorem bF (ns : List Nd) (n e s : Nat) (l : List Int) (k : Nat) : (nK ns n e s l k).length ≤ 1 + k * ns.length := by
  induction k with
  | zero => simp [nK]
  | succ k ih => have := wW ns n ⟨e, s, kC l k⟩ ns.length; rw [nK, List.length_append, Nat.add_mul]; omega
theorem sumL_len (f : Nat → Value) (e s : Nat) : (xK f e s).length ≤ 8 := cK _ _ _
theorem ntW_len (ns : List Nd) (W i n e s : Nat) (l : List Int) (wt : Nat → Nat → List Gv) (B : Nat) (h : ∀ a b, (wt a b).length ≤ B) : ∀ k a b, (ntW ns W i n e s l wt k a b).length ≤ B + k := by
  intro k
  induction k with
  | zero => intro a b; exact h a b
  | succ k ih =>
    intro a b
    rw [ntW]
    have := wtPut_len ns W i n ⟨e, s, kC l k⟩ (ntW ns W i n e s l wt k) (B + k) ih ns.length a b
    split at this <;> omega
theorem putP_okG {ns : List Nd} {L R : Nat} {n : Int} {m : Gv} {e s : Nat} (hL : ns.length ≤ L) (he : m.node = e) (h6 : e < 6) (hr : m.epoch = s) (h4 : s < R) : ∀ k, k ≤ ns.length → ∀ p ∈ jX ns n m k, wP L R p := by
  intro k
  induction k with
  | zero => intro _ p hp; simp [jX] at hp
  | succ k ih =>
    intro hk p hp
    unfold jX at hp
    split at hp
    · rcases List.mem_append.1 hp with h | h
      · exact ih (by omega) p h
      · simp at h
        subst h
        exact ⟨k, e, s, rfl, by omega, he, h6, hr, by omega⟩
    · exact ih (by omega) p hp
theorem ntP_ok {ns : List Nd} {L R n e s : Nat} {l : List Int} (hL : ns.length ≤ L) (hn : n < L) (h6 : e < 6) (h4 : s < R) : ∀ k, ∀ p ∈ nK ns n e s l k, wP L R p := by
  intro k
  induction k with
  | zero => intro p hp; simp [nK] at hp; subst hp; exact ⟨n, e, s, rfl, hn, rfl, h6, rfl, h4⟩
  | succ k ih =>
    intro p hp
    rw [nK] at hp
    rcases List.mem_append.1 hp with h | h
    · exact ih p h
    · exact putP_okG hL rfl h6 rfl h4 _ (Nat.le_refl _) p h
theorem WayIn.tail {S : Nat → Prop} {w : World} {g off n cap : Nat} {c : List Pt} {l : List (List Pt)} (h : WayIn S w (.slice (some ⟨g, off, none⟩) (n + 1) cap) (c :: l)) (hn : l.length = n) : WayIn S w (if cap = 1 then .slice (some ⟨g, off, none⟩) 0 0 else .slice (some ⟨g, off + 1, none⟩) n (cap - 1)) l := by
  obtain ⟨vs, ⟨h1, h2⟩, h3, h4⟩ := h
  rcases h2 with ⟨e, _⟩ | ⟨g', off', cap', cur, e, hc, b1, b2, b3, b4⟩
  · simp at e
  · simp only [Value.slice.injEq, Option.some.injEq, Addr.mk.injEq] at e
    obtain ⟨⟨rfl, rfl, _⟩, _, rfl⟩ := e
    simp only [List.length_cons] at h1 b1 b2
    refine ⟨vs.tail, ⟨by rw [List.length_tail]; omega, ?_⟩, fun b hb => h3 b ?_, fun k hk => ?_⟩
    · by_cases hcap : cap = 1
      · rw [if_pos hcap]
        have : l.length = 0 := by omega
        refine .inr ⟨g, off, 0, cur, by rw [this], hc, by omega, by omega, by omega, fun k u hk => ?_⟩
        rw [List.getElem?_tail] at hk
        have := (List.getElem?_eq_some_iff.1 hk).1
        omega
      · rw [if_neg hcap]
        refine .inr ⟨g, off + 1, cap - 1, cur, by rw [hn], hc, by omega, by omega, by omega, fun k u hk => ?_⟩
        rw [List.getElem?_tail] at hk
        rw [show off + 1 + k = off + (k + 1) by omega]
        exact b4 _ _ hk
    · split at hb <;> simpa [Value.ownBlock] using hb
    · obtain ⟨u, e, hu⟩ := h4 (k + 1) (by simp; omega)
      refine ⟨u, by rw [List.getElem?_tail]; exact e, ?_⟩
      simpa using hu
set_option maxRecDepth 100000 in
theorem POwn.cutWay {w : World} {S : Nat → Prop} {pb : Nat} {x : PX} {ns : List Nd} {R W i j g : Nat} {v v' : Value} {D : Nat → Nat → Int} {st : PSt} {l : List (List Pt)} (h : POwn w S pb x ns R W D st) (hi : i < W) (hj : j < 4) (hq : x.warr[i * 3684 + 3680 + j]? = some v) (hv : v.ownBlock = some g) (hv' : v'.ownBlock = some g) (hw : WayIn S w v' l) (hl : l.length ≤ 100000000) :
    POwn (w.setCell ⟨x.wb, i * 3684 + 3680 + j, none⟩ v') S pb { x with warr := x.warr.setIfInBounds (i * 3684 + 3680 + j) v' } ns R W D { st with wy := kY st.wy i j l } := by
  have h8 := h.small
  have hqs := (Array.getElem?_eq_some_iff.1 hq).1
  have hat : (x.warr.setIfInBounds (i * 3684 + 3680 + j) v')[i * 3684 + 3680 + j]? = some v' := Array.getElem?_setIfInBounds_self_of_lt hqs
  have hne : ∀ (p : Nat), p ≠ i * 3684 + 3680 + j → (x.warr.setIfInBounds (i * 3684 + 3680 + j) v')[p]? = x.warr[p]? := fun p hp => Array.getElem?_setIfInBounds_ne (fun e => hp e.symm)
  have back : ∀ (p b : Nat) (u : Value), (x.warr.setIfInBounds (i * 3684 + 3680 + j) v')[p]? = some u → Value.ownBlock u = some b → ∃ u', x.warr[p]? = some u' ∧ Value.ownBlock u' = some b := by
    intro p b u hu hb
    by_cases e : p = i * 3684 + 3680 + j
    · subst e
      rw [hat] at hu
      simp only [Option.some.injEq] at hu
      subst hu
      exact ⟨_, hq, by rw [hv, ← hv', hb]⟩
    · rw [hne p e] at hu
      exact ⟨u, hu, hb⟩
  refine h.setRow (qC _ _ _ _) (qY h.work) ⟨by simpa using h.row.size, fun a b ha hb => ⟨?_, ?_⟩, fun a b ha hb => ?_, fun a b ha hb => ?_, fun a b ha hb k hk => ?_, fun a ha k hk => ?_, fun a j' ha hj' => ?_, fun p b v hp hv hb => ?_, fun p q b v u hp hq' hv hu hb hb' => ?_⟩ ⟨rfl, rfl⟩ (fun a b => ⟨(h.few.1 a b).1, (h.few.1 a b).2.1, ?_⟩)
  · rw [hne _ (by omega)]; exact (h.row.src a b ha hb).1
  · rw [hne _ (by omega)]; exact (h.row.src a b ha hb).2
  · obtain ⟨u, eu, hu⟩ := h.row.wait a b ha hb
    exact ⟨u, by rw [hne _ (by omega)]; exact eu, hu⟩
  · obtain ⟨u, eu, hu⟩ := h.row.letb a b ha hb
    exact ⟨u, by rw [hne _ (by omega)]; exact eu, hu⟩
  · rw [hne _ (by have := cT (i := a) (a := i) (r := 32 + b * 408 + k) (s := 3680 + j) (by omega) (by omega) (by omega); omega)]; exact h.row.tal a b ha hb k hk
  · rw [hne _ (by omega)]; exact h.row.bel a ha k hk
  · by_cases e : a = i ∧ j' = j
    · obtain ⟨rfl, rfl⟩ := e
      simp only [zZ]
      exact ⟨_, hat, hw⟩
    · simp only [yH _ _ e]
      obtain ⟨u, eu, hu⟩ := h.row.way a j' ha hj'
      exact ⟨u, by rw [hne _ (by omega)]; exact eu, hu⟩
  · obtain ⟨u', h1, h2⟩ := back p b v hv hb
    exact h.row.own p b u' hp h1 h2
  · obtain ⟨v', h1, h2⟩ := back p b v hv hb
    obtain ⟨u', h3, h4⟩ := back q b u hu hb'
    exact h.row.inj p q b v' u' hp hq' h1 h3 h2 h4
  · simp only [kY]
    split
    · exact hl
    · exact (h.few.1 a b).2.2
theorem POwn.believed2 {w w' : World} {S : Nat → Prop} {pb : Nat} {x : PX} {ns : List Nd} {R W : Nat} {D : Nat → Nat → Int} {st : PSt} {T : Nat → Int} {i : Nat} (h : POwn w S pb x ns R W D st) (hi : i < W) (hb : BelIn w' x.wb (i * 3684 + 3296) 162 x.warr T) (hc : Chg (fun b => b = x.wb) w w') : ∃ arr', POwn w' S pb { x with warr := arr' } ns R W D { st with tb := pZ st.tb i T } ∧ ∀ k, (k < i * 3684 + 3296 ∨ i * 3684 + 3296 + 384 ≤ k) → arr'[k]? = x.warr[k]? := by
  obtain ⟨arr', h1, h2, h3, h4⟩ := hb
  exact ⟨arr', h.setRow hc h1 (h.row.setBel h.small.1 hi h2 h3 h4) ⟨rfl, rfl⟩ h.few.1, h3⟩
set_option maxRecDepth 100000 in
set_option maxHeartbeats 8000000 in
theorem ptell_any {S : Nat → Prop} {pb : Nat} {x : PX} {ns : List Nd} {R W : Nat} {D : Nat → Nat → Int} {st : PSt} (i j : Nat) (w : World) (hO : POwn w S pb x ns R W D st) (hi : i < W) (hj : j < 4) (hne : (st.wy i j).length ≠ 0) (hok : ∀ c ∈ st.wy i j, c.length ≤ 1000 ∧ ∀ q ∈ c, wP 8 4 q) :
    Calls Try.prog 126 #[.pointer (some ⟨pb, 0, none⟩), .int .i64 (i : Int), .int .i64 (j : Int)] w fun e w' => e = .returned (.tuple #[]) ∧ POwn.After w w' S pb ns R W D (zF st i j) := by
  have h8 := hO.small
  obtain ⟨c, l, hcl⟩ : ∃ c l, st.wy i j = c :: l := by
    cases h : st.wy i j with
    | nil => rw [h] at hne; simp at hne
    | cons c l => exact ⟨c, l, rfl⟩
  obtain ⟨hc1, hc2⟩ := hok c (by rw [hcl]; simp)
  have HS : Hid (zF st i j = { st with tb := pZ st.tb i (kT 4 (st.tb i) c c.length), wy := kY st.wy i j l }) := qJ (by unfold zF; rw [hcl]; rfl)
  obtain ⟨v, hq, hw⟩ := hO.row.way i j hi hj
  rw [hcl] at hw
  obtain ⟨vs, hrow, hvS, hvs⟩ := id hw
  obtain ⟨hvl, ⟨_, h0⟩ | ⟨g, off, cap, cur, rfl, hcur, b1, b2, b3, b4⟩⟩ := id hrow
  · simp at h0
  obtain ⟨u, hu, hou⟩ := hvs 0 (by simp)
  simp only [List.getD_cons_zero] at hou
  obtain ⟨ua, uc, rfl⟩ : ∃ ua uc, u = .slice ua c.length uc := ⟨_, _, qW hou.1⟩
  have hl9 : l.length ≤ 100000000 := by have := (hO.few.1 i j).2.2; rw [hcl] at this; simp at this; omega
  have hSg : S g := hvS g rfl
  have hgw : g ≠ x.wb := fun e => by
    rw [e, hO.work] at hcur
    simp only [Option.some.injEq, Obj.cells.injEq] at hcur
    exact absurd hcur.2.1 (by decide)
  have c3 := qQ (o := 3) hO.root hO.r3
  have cq := qQ (o := i * 3684 + 3680 + j) hO.work hq
  have cg := qQ hcur (b4 0 _ hu)
  rw [Nat.add_zero] at cg
  have lt0 := hO.slt _ hO.sroot
  have lt1 := hO.slt _ hO.swork
  have ltg := hO.slt _ hSg
  have hi1 : (i : Int) < (W : Int) := by omega
  have hj4 : (j : Int) < 4 := by omega
  have Hbel := qJ (fun (w' : World) (h : Bw w w') => nP x.wb (i * 3684 + 3296) 162 x.warr (st.tb i) c ua uc w' (lW (qP hou.1 fun z hz => Below.block h z hz)) (fun k hk => hc2 _ (tU hk)) hc1 (fun g' off' e e2 => by
    subst e2
    obtain ⟨cur', hc'⟩ := zK hou.1 (b := x.wb) (by rw [e]; rfl)
    rw [hO.work] at hc'
    simp only [Option.some.injEq, Obj.cells.injEq] at hc'
    exact absurd hc'.2.1 (by decide)) ((hO.bw h).belIn hi))
  have HO := qJ hO
  have Hw := qJ hw
  have Hq := qJ hq
  have Hcur := qJ hcur
  simp only [List.length_cons] at cq
  clear hO hw hq hcur hrow hvs hou hok hne
  go_enter Try.func126, Try.ntmps126
  go_wp2_with fail
  have hl1 : (0 : Int) < (l.length : Int) + 1 := by omega
  go_region_held3 (fun w' => w'.cell? ⟨x.wb, i * 3684 + 3680 + j, none⟩ = some (.slice (some ⟨g, off, none⟩) (l.length + 1) cap) ∧ w'.cell? ⟨g, off, none⟩ = some (.slice ua c.length uc)) (go_keep) ((go_at_call 109; refine ((qK Hbel) _ (by repeat first|exact br _|assumption|apply bd|apply bn|apply ba|refine bt ?_ (by assumption))).mono ?_; rintro e2 w2 ⟨rfl, hb2, hC2⟩; obtain ⟨arr2, hO2, hk2⟩ := ((qK HO).bw (show Bw w w.drew from (by repeat first|exact br _|assumption|apply bd|apply bn|apply ba|refine bt ?_ (by assumption)))).believed2 hi hb2 hC2; have dq := qQ (o := i * 3684 + 3680 + j) hO2.work ((hk2 _ (by omega)).trans (qK Hq)); have dg := (World.cell?_of_block (a := ⟨g, off, none⟩) (hC2.block g (by simpa using ltg) hgw)).trans cg; have HO2 := qJ hO2; have Hk2 := qJ hk2; clear hO2 hk2))
  all_goals (
    have hO2 := qK HO2
    have dqf := qZ (o := i * 3684 + 3680 + j) hO2.work
    have lt2 := hO2.slt _ hO2.swork
    have hW2 : WayIn S w2 (.slice (some ⟨g, off, none⟩) (l.length + 1) cap) (c :: l) := by
      obtain ⟨v', hq', hw'⟩ := hO2.row.way i j hi hj
      have e := (qK Hk2 _ (show (i * 3684 + 3680 + j < i * 3684 + 3296 ∨ i * 3684 + 3296 + 384 ≤ i * 3684 + 3680 + j) by omega)).trans (qK Hq)
      rw [hq'] at e
      simp only [Option.some.injEq] at e
      subst e
      simp only [hcl] at hw'
      exact hw'
    have Hcut := qJ (hO2.cutWay hi hj ((qK Hk2 _ (by omega)).trans (qK Hq)) (g := g) rfl (by split <;> rfl) (hW2.tail rfl) hl9)
    have HC : Hid (Chg S w w2) := qJ ((Chg.bw (S := S) (show Bw w w.drew from (by repeat first|exact br _|assumption|apply bd|apply bn|apply ba|refine bt ?_ (by assumption)))).trans hC2 (fun b h => .inl (h ▸ (qK HO).swork)))
    have hsw : S x.wb := (qK HO).swork
    have hlc : (1 : Int) ≤ (l.length : Int) + 1 := by omega
    have hlc2 : (l.length : Int) + 1 ≤ (cap : Int) := by simp only [List.length_cons] at b1; omega
    clear hO2 hW2 hC2 hb2
    by_cases hcap : cap = 1
    · subst hcap
      have hl0 : l.length = 0 := by omega
      rw [if_pos rfl] at Hcut
      go_wp2_with fail
      go_region
      all_goals (
        go_wp2_with fail
        go_end0
        refine ⟨rfl, ?_⟩
        rw [qK HS]
        exact ⟨S, _, (qK Hcut).bw (by repeat first|exact br _|assumption|apply bd|apply bn|apply ba|refine bt ?_ (by assumption)), ((qK HC).trans (qC w2 x.wb _ _) (fun b hb => .inl (hb ▸ hsw))).trans (Chg.bw (S := S) (by repeat first|exact br _|assumption|apply bd|apply bn|apply ba|refine bt ?_ (by assumption))) (fun _ h => .inl h), fun b hb => .inl hb⟩)
    · rw [if_neg hcap] at Hcut
      go_wp2_with fail
      go_region
      all_goals (
        go_wp2_with fail
        go_end0
        refine ⟨rfl, ?_⟩
        rw [qK HS]
        exact ⟨S, _, (qK Hcut).bw (by repeat first|exact br _|assumption|apply bd|apply bn|apply ba|refine bt ?_ (by assumption)), ((qK HC).trans (qC w2 x.wb _ _) (fun b hb => .inl (hb ▸ hsw))).trans (Chg.bw (S := S) (by repeat first|exact br _|assumption|apply bd|apply bn|apply ba|refine bt ?_ (by assumption))) (fun _ h => .inl h), fun b hb => .inl hb⟩))
end Go.Proofs.Ytfemleimkbjehaa
