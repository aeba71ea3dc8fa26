import Derived.Test.YtfemleimkbjehaaJ16
set_option maxRecDepth 1000000
set_option maxHeartbeats 40000000
set_option linter.unusedVariables false
set_option linter.unusedSimpArgs false
namespace Go.Proofs.Ytfemleimkbjehaa
open Go.RowKit
theorem pY (f : Nat → List Gv) (w : Nat) (k : Nat) : (wkN f w k).length = vG f k := by
  induction k with
  | zero => rfl
  | succ k ih => rw [wkN, List.length_append, wkTo_len, ih]; rfl
theorem mU {l m : List Ev} {k : Nat} (h : k < l.length) : uJ (l ++ m) k = uJ l k := by simp [uJ, List.getD, List.getElem?_append_left h]
theorem lK {l m : List Ev} {k : Nat} : uJ (l ++ m) (l.length + k) = uJ m k := by simp [uJ, List.getD, List.getElem?_append_right]
theorem wkTo_get (w n : Nat) (l : List Gv) : ∀ k j, j < k → uJ (wkTo w n l k) j = ⟨1, w, n, j, (vR l j).node, (vR l j).epoch, (vR l j).value⟩ := by
  intro k
  induction k with
  | zero => intro j h; omega
  | succ k ih =>
    intro j hj
    rw [wkTo]
    by_cases e : j < k
    · rw [mU (by rw [wkTo_len]; exact e)]; exact ih j e
    · have : j = k := by omega
      subst this
      have h := lK (l := wkTo w n l j) (m := [⟨1, w, n, j, (vR l j).node, (vR l j).epoch, (vR l j).value⟩]) (k := 0)
      rw [wkTo_len] at h
      exact h
theorem wkN_get (f : Nat → List Gv) (w : Nat) : ∀ L n j, n < L → j < (f n).length → uJ (wkN f w L) (vG f n + j) = ⟨1, w, n, j, (vR (f n) j).node, (vR (f n) j).epoch, (vR (f n) j).value⟩ := by
  intro L
  induction L with
  | zero => intro n j h; omega
  | succ L ih =>
    intro n j hn hj
    rw [wkN]
    by_cases e : n < L
    · have hm : vG f (n + 1) ≤ vG f L := by
        have : ∀ d, vG f (n + 1) ≤ vG f (n + 1 + d) := by
          intro d
          induction d with
          | zero => exact Nat.le_refl _
          | succ d ihd => rw [← Nat.add_assoc]; exact Nat.le_trans ihd (by rw [vG]; omega)
        have h1 := this (L - (n + 1))
        rw [show n + 1 + (L - (n + 1)) = L by omega] at h1
        exact h1
      rw [mU (by rw [pY]; rw [vG] at hm; omega)]
      exact ih n j e hj
    · have : n = L := by omega
      subst this
      rw [← pY f w n, lK]
      exact wkTo_get w n (f n) _ j hj
set_option maxHeartbeats 2000000 in
theorem set7 {w : World} {q : Nat} {t : TypeId} {z0 z1 z2 z3 z4 z5 z6 : Value} (h : w.heap[q]? = some (.cells #[z0, z1, z2, z3, z4, z5, z6] t (0, 0))) (a b c d e f g : Value) : (((((((w.setCell ⟨q, 0, none⟩ a).setCell ⟨q, 1, none⟩ b).setCell ⟨q, 2, none⟩ c).setCell ⟨q, 3, none⟩ d).setCell ⟨q, 4, none⟩ e).setCell ⟨q, 5, none⟩ f).setCell ⟨q, 6, none⟩ g).heap[q]? = some (.cells #[a, b, c, d, e, f, g] t (0, 0)) ∧ Chg (fun x => x = q) w (((((((w.setCell ⟨q, 0, none⟩ a).setCell ⟨q, 1, none⟩ b).setCell ⟨q, 2, none⟩ c).setCell ⟨q, 3, none⟩ d).setCell ⟨q, 4, none⟩ e).setCell ⟨q, 5, none⟩ f).setCell ⟨q, 6, none⟩ g) := by
  have h1 := qY (k := 0) (v := a) h
  have h2 := qY (k := 1) (v := b) h1
  have h3 := qY (k := 2) (v := c) h2
  have h4 := qY (k := 3) (v := d) h3
  have h5 := qY (k := 4) (v := e) h4
  have h6 := qY (k := 5) (v := f) h5
  have h7 := qY (k := 6) (v := g) h6
  refine ⟨h7.trans rfl, ?_⟩
  exact ((((((qC _ _ _ _).trans (qC _ _ _ _) (fun _ h => .inl h)).trans (qC _ _ _ _) (fun _ h => .inl h)).trans (qC _ _ _ _) (fun _ h => .inl h)).trans (qC _ _ _ _) (fun _ h => .inl h)).trans (qC _ _ _ _) (fun _ h => .inl h)).trans (qC _ _ _ _) (fun _ h => .inl h)
theorem fJ {w : World} {v : Value} {base : Nat} {ty : TypeId} {l : List Gv} (h : w.ownsRow base ty 3 v l.length (qB l)) : GvAt w (yQ v) l := by
  intro i hi
  obtain ⟨g, e, hg, hc⟩ := vT h (by omega)
  refine ⟨g, 0, e, hg, fun j hj => ?_⟩
  have key : ∀ f u, f < 3 → (Gv.cells (vR l j))[f]? = some u → w.cell? ⟨g, 0 + j * 3 + f, none⟩ = some u := fun f u hf hu => by
    rw [Nat.zero_add]; exact hc _ _ (by unfold qB; rw [mW (f := Gv.cells) (k := 3) (d := ⟨0, 0, 0⟩) (fun a => rfl) l j hj f hf]; exact hu)
  exact ⟨key 0 _ (by omega) rfl, key 1 _ (by omega) rfl, key 2 _ (by omega) rfl⟩
set_option maxRecDepth 100000 in
set_option maxHeartbeats 4000000 in
theorem pworkNo_any {S : Nat → Prop} {pb : Nat} {x : PX} {ns : List Nd} {R W : Nat} {D : Nat → Nat → Int} {st : PSt} (i k : Nat) (w : World) (hO : POwn w S pb x ns R W D st) (hi : i < W) (hk : k < vG (st.wt i) ns.length) :
    Calls Try.prog 145 #[.pointer (some ⟨pb, 0, none⟩), .int .i64 (i : Int), .int .i64 (k : Int)] w fun en w' => en = .returned (Ev.val (uJ (wkN (st.wt i) i ns.length) k)) ∧ Bw w w' := by
  have h8 := hO.small
  obtain ⟨na, nc, hvn, hnd⟩ := hO.ns
  have HO := qJ hO
  have Hvn := qJ hvn
  have hi1 : (i : Int) < (W : Int) := by omega
  have Hb := qJ (gD (f := st.wt i) (B := 100000000) (fun n => (hO.few.1 i n).1))
  have c0 := qQ (o := 0) hO.root (hvn ▸ hO.r0)
  have lt0 := hO.slt _ hO.sroot
  have Hg := qJ (wkN_get (st.wt i) i ns.length)
  clear hO hvn hnd
  go_enter Try.func145, Try.ntmps145
  go_wp2_with fail
  go_loopw [2, 16] (fun q j wr => ∃ n d : Nat, n ≤ ns.length ∧ j = .int .i64 n ∧ q = .int .i64 d ∧ k = vG (st.wt i) n + d ∧ Bw w wr ∧ wr.heap[w.heap.size]? = some (.cells #[.int .i64 0, .int .i64 0, .int .i64 0, .int .i64 0, .int .i64 0, .int .i64 0, .int .i64 0] 120 (0, 0))) (fun _ j _ => ns.length - (intOf j).toNat)
  case atStart => exact ⟨0, k, Nat.zero_le _, rfl, rfl, by simp [vG], (by repeat first|exact br _|assumption|apply bd|apply bn|apply ba|refine bt ?_ (by assumption)), heap_alloc_new w _⟩
  case round =>
    clear c0 lt0
    obtain ⟨n, d, hn, rfl, rfl, hkd, hB, hbx⟩ := hrel
    rename World => wr
    have Hkd := qJ hkd
    by_cases hlt : n < ns.length
    · have hOr := (qK HO).bw hB
      have c3 := qQ (o := 3) hOr.root hOr.r3
      have lt0 := hOr.slt _ hOr.sroot
      have lt1 := hOr.slt _ hOr.swork
      obtain ⟨v, hq, hv⟩ := hOr.row.wait i n hi hlt
      obtain ⟨qa, qc, hqe⟩ : ∃ qa qc, v = .slice qa (st.wt i n).length qc := ⟨_, _, qW hv.1⟩
      subst hqe
      have cq := qQ (o := i * 3684 + 16 + n) hOr.work hq
      have hn1 : (n : Int) < (ns.length : Int) := by omega
      have hn8 : (n : Int) < 8 := by omega
      have hll := (hOr.few.1 i n).1
      have bxl := (Array.getElem?_eq_some_iff.1 hbx).1
      have bxf := fun o => qZ (o := o) hbx
      have b0 := qQ (o := 0) hbx rfl
      have b1 := qQ (o := 1) hbx rfl
      have b2 := qQ (o := 2) hbx rfl
      have b3 := qQ (o := 3) hbx rfl
      have b4 := qQ (o := 4) hbx rfl
      have b5 := qQ (o := 5) hbx rfl
      have b6 := qQ (o := 6) hbx rfl
      have Hbx := qJ hbx
      have hkb := (qK Hb) ns.length
      have hkb2 : ns.length * 100000000 ≤ 8 * 100000000 := Nat.mul_le_mul h8.1 (Nat.le_refl _)
      by_cases hd : d < (st.wt i n).length
      · have hd1 : (d : Int) < ((st.wt i n).length : Int) := by omega
        have He := qJ (show uJ (wkN (st.wt i) i ns.length) k = ⟨1, i, n, d, (vR (st.wt i n) d).node, (vR (st.wt i n) d).epoch, (vR (st.wt i n) d).value⟩ from by rw [hkd]; exact (qK Hg) n d hlt hd)
        obtain ⟨gb, goff, hge, hgb, hgc⟩ := fJ hv.1 d hd
        simp only [yQ] at hge
        subst hge
        obtain ⟨m0, m1, m2⟩ := hgc d hd
        generalize vR (st.wt i n) d = y at *
        generalize (st.wt i n).length = ln at *
        clear hOr hq hv hbx hgc hkd
        go_wp2_with fail
        obtain ⟨x0, x2⟩ := set7 (qK Hbx) (.int .i64 1) (.int .i64 (i : Int)) (.int .i64 (n : Int)) (.int .i64 (d : Int)) (.int .i64 y.node) (.int .i64 y.epoch) (.int .i64 y.value)
        obtain ⟨wE, hwE⟩ : ∃ wE, ((((((wr.setCell ⟨w.heap.size, 0, none⟩ (.int .i64 1)).setCell ⟨w.heap.size, 1, none⟩ (.int .i64 (i : Int))).setCell ⟨w.heap.size, 2, none⟩ (.int .i64 (n : Int))).setCell ⟨w.heap.size, 3, none⟩ (.int .i64 (d : Int))).setCell ⟨w.heap.size, 4, none⟩ (.int .i64 y.node)).setCell ⟨w.heap.size, 5, none⟩ (.int .i64 y.epoch)).setCell ⟨w.heap.size, 6, none⟩ (.int .i64 y.value) = wE := ⟨_, rfl⟩
        rw [hwE] at x0 x2
        rw [hwE]
        clear hwE b0 b1 b2 b3 b4 b5 b6 bxf
        have x1 := (Below.block (show Bw wE (wE.alloc (.cells #[.int .i64 y.node, .int .i64 y.epoch, .int .i64 y.value] 117)) from (by repeat first|exact br _|assumption|apply bd|apply bn|apply ba|refine bt ?_ (by assumption))) _ (Array.getElem?_eq_some_iff.1 x0).1).trans x0
        have e0 := qQ (o := 0) x1 rfl
        have e1 := qQ (o := 1) x1 rfl
        have e2 := qQ (o := 2) x1 rfl
        have e3 := qQ (o := 3) x1 rfl
        have e4 := qQ (o := 4) x1 rfl
        have e5 := qQ (o := 5) x1 rfl
        have e6 := qQ (o := 6) x1 rfl
        refine bodyPost_ret (v := .agg #[.int .i64 1, .int .i64 (i : Int), .int .i64 (n : Int), .int .i64 (d : Int), .int .i64 y.node, .int .i64 y.epoch, .int .i64 y.value]) (by simp [results, Try.results145, go_sem, e0, e1, e2, e3, e4, e5, e6]) rfl ⟨by rw [qK He]; rfl, ?_⟩
        exact (Chg.toBw hB x2 (fun z hz => hz ▸ Nat.le_refl _)).trans (by repeat first|exact br _|assumption|apply bd|apply bn|apply ba|refine bt ?_ (by assumption))
      · have hd1 : ¬ (d : Int) < ((st.wt i n).length : Int) := by omega
        have Hnx := qJ (show k = vG (st.wt i) (n + 1) + (d - (st.wt i n).length) from by rw [vG]; omega)
        have hdk : d ≤ k := by omega
        generalize (st.wt i n).length = ln at *
        clear hOr hq hv hbx hkd
        go_wp2_with fail
        go_roundw
        case rel => exact ⟨n + 1, d - ln, by omega, by go_num, by congr 1; omega, qK Hnx, hB, qK Hbx⟩
        case measure => simp [intOf]; omega
    · have hnn : n = ns.length := by omega
      subst hnn
      omega
def oth (L W : Nat) (st : PSt) (frs : Nat → Nat → List Tm) (i : Nat) : List Ev := pnN i (frs i) (fun n => mG (wnOf (st.tl i n)) 6) L ++ ptX (st.wy i) i W
def kW (L W : Nat) (st : PSt) (frs : Nat → Nat → List Tm) : Nat → List Ev
  | 0 => []
  | k + 1 => kW L W st frs k ++ (wkN (st.wt k) k L ++ oth L W st frs k)
theorem oth_len {L W : Nat} {st : PSt} {frs : Nat → Nat → List Tm} (hL : L ≤ 8) (hW : W ≤ 4) (i : Nat) : (oth L W st frs i).length ≤ 200 := by
  unfold oth
  have h1 := pnN_len (i := i) (frs := frs i) (tms := fun n => mG (wnOf (st.tl i n)) 6) (fun n => dV _ 6) L
  have h2 := ptX_len (st.wy i) i W
  rw [List.length_append]
  omega
theorem lX {L W : Nat} {st : PSt} {frs : Nat → Nat → List Tm} (hL : L ≤ 8) (hW : W ≤ 4) (hw : ∀ i n, (st.wt i n).length ≤ 100000000) (k : Nat) : (kW L W st frs k).length ≤ k * 800000200 := by
  induction k with
  | zero => simp [kW]
  | succ k ih =>
    have h1 := gD (f := st.wt k) (B := 100000000) (hw k) L
    have h2 := oth_len (st := st) (frs := frs) hL hW k
    rw [kW, List.length_append, List.length_append, pY]
    omega
def FrOk (S : Nat → Prop) (pb : Nat) (x : PX) (ns : List Nd) (R W : Nat) (D : Nat → Nat → Int) (st : PSt) (frs : Nat → Nat → List Tm) : Prop :=
  (∀ i n, (frs i n).length ≤ 100) ∧ (∀ i n k, i < W → n < ns.length → k < 24 → ∃ b, st.tl i n k = .bool b) ∧ ∀ i n : Nat, i < W → n < ns.length → ∀ w' : World, POwn w' S pb x ns R W D st → Calls Try.prog 62 #[.pointer (some ⟨pb, 0, none⟩), .int .i64 (i : Int), .int .i64 (n : Int)] w' fun e w2 => ∃ v, e = .returned (.tuple #[v, .int .i64 0]) ∧ OwnT w' w2 v (frs i n) ∧ Bw w' w2
set_option maxRecDepth 100000 in
set_option maxHeartbeats 4000000 in
theorem pnt_any {S : Nat → Prop} {pb : Nat} {x : PX} {ns : List Nd} {R W : Nat} {D : Nat → Nat → Int} {st : PSt} (frs : Nat → Nat → List Tm) (i : Nat) (w : World) (hO : POwn w S pb x ns R W D st) (hF : FrOk S pb x ns R W D st frs) (hi : i < W) :
    Calls Try.prog 91 #[.pointer (some ⟨pb, 0, none⟩), .int .i64 (i : Int)] w fun en w' => ∃ v, en = .returned v ∧ OwnE w w' v (oth ns.length W st frs i) ∧ Bw w w' := by
  have h8 := hO.small
  have Hn := qJ (fun (w' : World) (h : Bw w w') => pnotifies_any (frs i) i w' (hO.bw h) hi (fun n k hn hk => hF.2.1 i n k hi hn hk) (hF.1 i) (fun n hn => hF.2.2 i n hi hn))
  have Ht := qJ (fun (w' : World) (h : Bw w w') => ptells_any i w' (hO.bw h) hi)
  have h1 := pnN_len (i := i) (frs := frs i) (tms := fun n => mG (wnOf (st.tl i n)) 6) (fun n => dV _ 6) ns.length
  have h2 := ptX_len (st.wy i) i W
  have He : Hid (oth ns.length W st frs i = pnN i (frs i) (fun n => mG (wnOf (st.tl i n)) 6) ns.length ++ ptX (st.wy i) i W) := qJ rfl
  generalize pnN i (frs i) (fun n => mG (wnOf (st.tl i n)) 6) ns.length = N1 at *
  generalize ptX (st.wy i) i W = T1 at *
  clear hO hF
  go_enter Try.func91, Try.ntmps91
  go_wp2_with fail
  refine ((qK Hn) _ (by repeat first|exact br _|assumption|apply bd|apply bn|apply ba|refine bt ?_ (by assumption))).mono ?_
  rintro en w1 ⟨v1, rfl, ho1, hb1⟩
  obtain ⟨a1, c1, hve⟩ := ho1.val
  subst hve
  go_wp2_with fail
  refine ((qK Ht) _ (by repeat first|exact br _|assumption|apply bd|apply bn|apply ba|refine bt ?_ (by assumption))).mono ?_
  rintro en w2 ⟨v2, rfl, ho2, hb2⟩
  obtain ⟨a2, c2, hve⟩ := ho2.val
  subst hve
  have hN1 : N1.length ≤ 1000 := by omega
  have hT1 : T1.length ≤ 1000 := by omega
  go_wp2_with (at_builtin; refine appG _ rfl _ _ _ 120 rfl _ 7 56 Try.infoEvent Try.underlying165 rfl (by decide) w.heap.size (.slice a1 N1.length c1) N1.length (jG N1) rfl (ho1.bw hb2) _ T1.length _ (jG T1) rfl (evCells_len T1) (OwnE.cells ho2) (evs_one T1) (by omega) (by omega) (Bw.size (hb1.trans hb2)) ?_; intro v9 w9 ho9 hg9 hl9; obtain ⟨ea, ec, hee⟩ : ∃ ea ec, v9 = .slice ea (N1.length + T1.length) ec := ⟨_, _, qW ho9⟩; subst hee)
  go_ret
  exact ⟨_, rfl, by rw [qK He]; exact OwnE.app ho9, tD (ho1.bw hb2) hg9 (hb1.trans hb2) (Nat.le_refl _)⟩
set_option maxRecDepth 100000 in
set_option maxHeartbeats 4000000 in
theorem pactions_any {S : Nat → Prop} {pb : Nat} {x : PX} {ns : List Nd} {R W : Nat} {D : Nat → Nat → Int} {st : PSt} (frs : Nat → Nat → List Tm) (w : World) (hO : POwn w S pb x ns R W D st) (hF : FrOk S pb x ns R W D st frs) :
    Calls Try.prog 64 #[.pointer (some ⟨pb, 0, none⟩)] w fun en w' => en = .returned (.int .i64 ((kW ns.length W st frs W).length : Nat)) ∧ Bw w w' := by
  have h8 := hO.small
  have Hl := qJ (fun k => lX (st := st) (frs := frs) h8.1 h8.2.2.1 (fun i n => (hO.few.1 i n).1) k)
  have Ho := qJ (fun k => oth_len (st := st) (frs := frs) h8.1 h8.2.2.1 k)
  have Hw := qJ (fun i => gD (f := st.wt i) (B := 100000000) (fun n => (hO.few.1 i n).1) ns.length)
  have c3 := qQ (o := 3) hO.root hO.r3
  have lt0 := hO.slt _ hO.sroot
  have HO := qJ hO
  have HF := qJ hF
  clear hO hF
  go_enter Try.func64, Try.ntmps64
  go_wp2_with fail
  go_loopw [3, 12] (fun c j wr => ∃ a : Nat, a ≤ W ∧ j = .int .i64 a ∧ c = .int .i64 ((kW ns.length W st frs a).length : Nat) ∧ Bw w wr) (fun _ j _ => W - (intOf j).toNat)
  case atStart => exact ⟨0, Nat.zero_le _, rfl, rfl, Bw.refl _⟩
  case round =>
    clear c3 lt0
    obtain ⟨a, ha, rfl, rfl, hB⟩ := hrel
    rename World => wr
    have hl1 := (qK Hl) a
    by_cases hlt : a < W
    · have ha1 : (a : Int) < (W : Int) := by omega
      have Hc := qJ (pcount_any a wr ((qK HO).bw hB) hlt)
      have Hn := qJ (pnt_any frs a wr ((qK HO).bw hB) (qK HF) hlt)
      have hl2 := (qK Ho) a
      have hl3 := (qK Hw) a
      have Hs : Hid ((kW ns.length W st frs (a + 1)).length = (kW ns.length W st frs a).length + (vG (st.wt a) ns.length + (oth ns.length W st frs a).length)) := qJ (by rw [kW, List.length_append, List.length_append, pY])
      generalize (kW ns.length W st frs a).length = P0 at *
      generalize hP1 : (kW ns.length W st frs (a + 1)).length = P1 at Hs
      have HP1 := qJ hP1
      clear hP1
      generalize vG (st.wt a) ns.length = C0 at *
      generalize oth ns.length W st frs a = O0 at *
      go_wp2_with (go_at_call 90; refine (qK Hc).mono ?_; rintro en w1 ⟨rfl, rfl⟩)
      refine (qK Hn).mono ?_
      rintro en w2 ⟨v2, rfl, ho2, hb2⟩
      obtain ⟨a2, c2, hve⟩ := ho2.val
      subst hve
      go_wp2_with fail
      go_roundw
      case rel => exact ⟨a + 1, by omega, by go_num, by rw [qK HP1, qK Hs]; go_num, hB.trans hb2⟩
      case measure => simp [intOf]; omega
    · have haa : a = W := by omega
      subst haa
      go_wp2_with fail
      go_ret
      exact ⟨rfl, hB⟩
def uY (l : List Ev) (k : Int) : Ev := if 0 ≤ k ∧ k < l.length then uJ l k.toNat else ev0
def uF (l : List Ev) (k : Int) : Bool := decide (0 ≤ k ∧ k < l.length)
theorem pacts_get {L W : Nat} {st : PSt} {frs : Nat → Nat → List Tm} : ∀ a d, a < W → d < (wkN (st.wt a) a L ++ oth L W st frs a).length → uJ (kW L W st frs W) ((kW L W st frs a).length + d) = uJ (wkN (st.wt a) a L ++ oth L W st frs a) d ∧ (kW L W st frs a).length + d < (kW L W st frs W).length := by
  intro a d ha hd
  have key : ∀ m, a < m → ∃ rest, kW L W st frs m = kW L W st frs a ++ ((wkN (st.wt a) a L ++ oth L W st frs a) ++ rest) := by
    intro m
    induction m with
    | zero => intro h; omega
    | succ m ih =>
      intro hm
      by_cases e : a < m
      · obtain ⟨rest, hr⟩ := ih e
        exact ⟨rest ++ (wkN (st.wt m) m L ++ oth L W st frs m), by rw [kW, hr]; simp [List.append_assoc]⟩
      · have : a = m := by omega
        subst this
        exact ⟨[], by rw [kW]; simp⟩
  obtain ⟨rest, hr⟩ := key W ha
  refine ⟨by rw [hr, lK, mU hd], ?_⟩
  rw [hr, List.length_append, List.length_append]
  omega
set_option maxRecDepth 100000 in
set_option maxHeartbeats 8000000 in
theorem paction_any {S : Nat → Prop} {pb : Nat} {x : PX} {ns : List Nd} {R W : Nat} {D : Nat → Nat → Int} {st : PSt} (frs : Nat → Nat → List Tm) (k : Int) (w : World) (hO : POwn w S pb x ns R W D st) (hF : FrOk S pb x ns R W D st frs) (hk : k ≤ 9223372036854775807) :
    Calls Try.prog 122 #[.pointer (some ⟨pb, 0, none⟩), .int .i64 k] w fun en w' => en = .returned (.tuple #[Ev.val (uY (kW ns.length W st frs W) k), .bool (uF (kW ns.length W st frs W) k)]) ∧ Bw w w' := by
  have h8 := hO.small
  have hA0 := heap_alloc_new w (.cells #[.int .i64 0, .int .i64 0, .int .i64 0, .int .i64 0, .int .i64 0, .int .i64 0, .int .i64 0] 120)
  by_cases hneg : k < 0
  · have He : Hid (uY (kW ns.length W st frs W) k = ev0) := qJ (by unfold uY; rw [if_neg (by omega)])
    have Hb : Hid (uF (kW ns.length W st frs W) k = false) := qJ (by unfold uF; exact decide_eq_false (by omega))
    clear hO hF
    go_enter Try.func122, Try.ntmps122
    have e0 := qQ (o := 0) hA0 rfl
    have e1 := qQ (o := 1) hA0 rfl
    have e2 := qQ (o := 2) hA0 rfl
    have e3 := qQ (o := 3) hA0 rfl
    have e4 := qQ (o := 4) hA0 rfl
    have e5 := qQ (o := 5) hA0 rfl
    have e6 := qQ (o := 6) hA0 rfl
    go_wp2_with fail
    refine bodyPost_ret (v := .tuple #[Ev.val ev0, .bool false]) (by simp [results, Try.results122, go_sem, e0, e1, e2, e3, e4, e5, e6, Ev.val, ev0]) rfl ⟨by rw [qK He, qK Hb], (by repeat first|exact br _|assumption|apply bd|apply bn|apply ba|refine bt ?_ (by assumption))⟩
  · clear hA0
    obtain ⟨k0, rfl⟩ := Int.eq_ofNat_of_zero_le (show 0 ≤ k by omega)
    have Hl := qJ (fun k => lX (st := st) (frs := frs) h8.1 h8.2.2.1 (fun i n => (hO.few.1 i n).1) k)
    have Ho := qJ (fun k => oth_len (st := st) (frs := frs) h8.1 h8.2.2.1 k)
    have Hw := qJ (fun i => gD (f := st.wt i) (B := 100000000) (fun n => (hO.few.1 i n).1) ns.length)
    have Hyes : Hid (k0 < (kW ns.length W st frs W).length → uY (kW ns.length W st frs W) (k0 : Int) = uJ (kW ns.length W st frs W) k0 ∧ uF (kW ns.length W st frs W) (k0 : Int) = true) := qJ (fun h => ⟨by unfold uY; rw [if_pos (by omega), Int.toNat_natCast], by unfold uF; exact decide_eq_true (by omega)⟩)
    have Hno : Hid (¬ k0 < (kW ns.length W st frs W).length → uY (kW ns.length W st frs W) (k0 : Int) = ev0 ∧ uF (kW ns.length W st frs W) (k0 : Int) = false) := qJ (fun h => ⟨by unfold uY; rw [if_neg (by omega)], by unfold uF; exact decide_eq_false (by omega)⟩)
    have Hget := qJ (@pacts_get ns.length W st frs)
    have c3 := qQ (o := 3) hO.root hO.r3
    have lt0 := hO.slt _ hO.sroot
    have HO := qJ hO
    have HF := qJ hF
    generalize hPA : uY (kW ns.length W st frs W) (k0 : Int) = PA at *
    generalize hPB : uF (kW ns.length W st frs W) (k0 : Int) = PB at *
    clear hO hF hneg hPA hPB
    go_enter Try.func122, Try.ntmps122
    go_wp2_with fail
    go_loopw [1, 17] (fun q j wr => ∃ a d : Nat, a ≤ W ∧ j = .int .i64 a ∧ q = .int .i64 d ∧ k0 = (kW ns.length W st frs a).length + d ∧ Bw w wr ∧ wr.heap[w.heap.size]? = some (.cells #[.int .i64 0, .int .i64 0, .int .i64 0, .int .i64 0, .int .i64 0, .int .i64 0, .int .i64 0] 120 (0, 0))) (fun _ j _ => W - (intOf j).toNat)
    case atStart => exact ⟨0, k0, Nat.zero_le _, rfl, rfl, by simp [kW], (by repeat first|exact br _|assumption|apply bd|apply bn|apply ba|refine bt ?_ (by assumption)), heap_alloc_new w _⟩
    case round =>
      clear c3 lt0
      obtain ⟨a, d, ha, rfl, rfl, hkd, hB, hbx⟩ := hrel
      rename World => wr
      have Hbx := qJ hbx
      have bxl := (Array.getElem?_eq_some_iff.1 hbx).1
      have b0 := qQ (o := 0) hbx rfl
      have b1 := qQ (o := 1) hbx rfl
      have b2 := qQ (o := 2) hbx rfl
      have b3 := qQ (o := 3) hbx rfl
      have b4 := qQ (o := 4) hbx rfl
      have b5 := qQ (o := 5) hbx rfl
      have b6 := qQ (o := 6) hbx rfl
      have bf := fun o => qZ (o := o) hbx
      by_cases hlt : a < W
      · have ha1 : (a : Int) < (W : Int) := by omega
        have hOr := (qK HO).bw hB
        have Hc := qJ (pcount_any a wr hOr hlt)
        have Hn := qJ (pnt_any frs a wr hOr (qK HF) hlt)
        have hl2 := (qK Ho) a
        have hl3 := (qK Hw) a
        have Hs : Hid ((kW ns.length W st frs (a + 1)).length = (kW ns.length W st frs a).length + (vG (st.wt a) ns.length + (oth ns.length W st frs a).length)) := qJ (by rw [kW, List.length_append, List.length_append, pY])
        have hdk : d ≤ k0 := by omega
        by_cases hd : d < vG (st.wt a) ns.length
        · have Hwk := qJ (pworkNo_any a d wr hOr hlt hd)
          have Hg := qJ ((qK Hget) a d hlt (by rw [List.length_append, pY]; omega))
          rw [← hkd, mU (by rw [pY]; exact hd)] at Hg
          obtain ⟨y1, y2⟩ := (qK Hyes) (qK Hg).2
          have Hy1 := qJ (y1.trans (qK Hg).1)
          have Hy2 := qJ y2
          have hd1 : (d : Int) < ((vG (st.wt a) ns.length : Nat) : Int) := by omega
          generalize vG (st.wt a) ns.length = C0 at *
          generalize uJ (wkN (st.wt a) a ns.length) d = y at *
          obtain ⟨yk, yw, yn, yi, ye, yr, yv⟩ := y
          simp only [Ev.val] at Hwk
          clear hOr hkd Hn Hg y1 y2 hbx
          go_wp2_with (first | (go_at_call 90; refine (qK Hc).mono ?_; rintro en w1 ⟨rfl, rfl⟩) | (go_at_call 145; refine (qK Hwk).mono ?_; rintro en w2 ⟨rfl, hb2⟩; have hbx2 := (Below.block hb2 _ bxl).trans (qK Hbx); have f0 := qQ (o := 0) hbx2 rfl; have f1 := qQ (o := 1) hbx2 rfl; have f2 := qQ (o := 2) hbx2 rfl; have f3 := qQ (o := 3) hbx2 rfl; have f4 := qQ (o := 4) hbx2 rfl; have f5 := qQ (o := 5) hbx2 rfl; have f6 := qQ (o := 6) hbx2 rfl; have ff := fun o => qZ (o := o) hbx2; have fl := (Array.getElem?_eq_some_iff.1 hbx2).1; have Hbx2 := qJ hbx2; clear hbx2))
          obtain ⟨x0, x2⟩ := set7 (qK Hbx2) (.int .i64 yk) (.int .i64 yw) (.int .i64 yn) (.int .i64 yi) (.int .i64 ye) (.int .i64 yr) (.int .i64 yv)
          obtain ⟨wE, hwE⟩ : ∃ wE, ((((((w2.setCell ⟨w.heap.size, 0, none⟩ (.int .i64 yk)).setCell ⟨w.heap.size, 1, none⟩ (.int .i64 yw)).setCell ⟨w.heap.size, 2, none⟩ (.int .i64 yn)).setCell ⟨w.heap.size, 3, none⟩ (.int .i64 yi)).setCell ⟨w.heap.size, 4, none⟩ (.int .i64 ye)).setCell ⟨w.heap.size, 5, none⟩ (.int .i64 yr)).setCell ⟨w.heap.size, 6, none⟩ (.int .i64 yv) = wE := ⟨_, rfl⟩
          rw [hwE] at x0 x2
          rw [hwE]
          clear hwE b0 b1 b2 b3 b4 b5 b6 f0 f1 f2 f3 f4 f5 f6 ff
          have e0 := qQ (o := 0) x0 rfl
          have e1 := qQ (o := 1) x0 rfl
          have e2 := qQ (o := 2) x0 rfl
          have e3 := qQ (o := 3) x0 rfl
          have e4 := qQ (o := 4) x0 rfl
          have e5 := qQ (o := 5) x0 rfl
          have e6 := qQ (o := 6) x0 rfl
          refine bodyPost_ret (v := .tuple #[Ev.val ⟨yk, yw, yn, yi, ye, yr, yv⟩, .bool true]) (by simp [results, Try.results122, go_sem, e0, e1, e2, e3, e4, e5, e6, Ev.val]) rfl ⟨by rw [qK Hy1, qK Hy2], ?_⟩
          exact Chg.toBw (hB.trans hb2) x2 (fun z hz => hz ▸ Nat.le_refl _)
        · have hd1 : ¬ (d : Int) < ((vG (st.wt a) ns.length : Nat) : Int) := by omega
          by_cases hd3 : d - vG (st.wt a) ns.length < (oth ns.length W st frs a).length
          · have Hg := qJ ((qK Hget) a d hlt (by rw [List.length_append, pY]; omega))
            have hsp : d = (wkN (st.wt a) a ns.length).length + (d - vG (st.wt a) ns.length) := by rw [pY]; omega
            rw [← hkd] at Hg
            have hg1 : uJ (kW ns.length W st frs W) k0 = uJ (oth ns.length W st frs a) (d - vG (st.wt a) ns.length) := by
              rw [(qK Hg).1]
              conv => lhs; rw [hsp]
              exact lK
            have Hg1 := qJ hg1
            clear hg1
            obtain ⟨y1, y2⟩ := (qK Hyes) (qK Hg).2
            have Hy1 := qJ (y1.trans (qK Hg1))
            have Hy2 := qJ y2
            clear hOr hkd Hg y1 y2 hbx hsp Hg1
            generalize vG (st.wt a) ns.length = C0 at *
            generalize oth ns.length W st frs a = O0 at *
            obtain ⟨d2, hd2⟩ : ∃ d2, d - C0 = d2 := ⟨_, rfl⟩
            rw [hd2] at hd3 Hy1
            have hdd : (d : Int) - (C0 : Int) = (d2 : Int) := by omega
            have hd4 : (d2 : Int) < (O0.length : Int) := by omega
            go_wp2_with (go_at_call 90; refine (qK Hc).mono ?_; rintro en w1 ⟨rfl, rfl⟩)
            refine (qK Hn).mono ?_
            rintro en w2 ⟨v2, rfl, ho2, hb2⟩
            obtain ⟨a2, c2, hve⟩ := ho2.val
            subst hve
            obtain ⟨eb, eoff, hee, heb, hec⟩ := evsAt_of ho2 d2 hd3
            simp only [yQ] at hee
            subst hee
            obtain ⟨g0, g1, g2, g3, g4, g5, g6⟩ := hec d2 hd3
            generalize uJ O0 d2 = y at *
            obtain ⟨yk, yw, yn, yi, ye, yr, yv⟩ := y
            simp only at g0 g1 g2 g3 g4 g5 g6
            have hbx2 := (Below.block hb2 _ bxl).trans (qK Hbx)
            have f0 := qQ (o := 0) hbx2 rfl
            have f1 := qQ (o := 1) hbx2 rfl
            have f2 := qQ (o := 2) hbx2 rfl
            have f3 := qQ (o := 3) hbx2 rfl
            have f4 := qQ (o := 4) hbx2 rfl
            have f5 := qQ (o := 5) hbx2 rfl
            have f6 := qQ (o := 6) hbx2 rfl
            have ff := fun o => qZ (o := o) hbx2
            have fl := (Array.getElem?_eq_some_iff.1 hbx2).1
            have Hbx2 := qJ hbx2
            clear hbx2 hec ho2 b0 b1 b2 b3 b4 b5 b6 bf
            go_wp2_with fail
            obtain ⟨x0, x2⟩ := set7 (qK Hbx2) (.int .i64 yk) (.int .i64 yw) (.int .i64 yn) (.int .i64 yi) (.int .i64 ye) (.int .i64 yr) (.int .i64 yv)
            obtain ⟨wE, hwE⟩ : ∃ wE, ((((((w2.setCell ⟨w.heap.size, 0, none⟩ (.int .i64 yk)).setCell ⟨w.heap.size, 1, none⟩ (.int .i64 yw)).setCell ⟨w.heap.size, 2, none⟩ (.int .i64 yn)).setCell ⟨w.heap.size, 3, none⟩ (.int .i64 yi)).setCell ⟨w.heap.size, 4, none⟩ (.int .i64 ye)).setCell ⟨w.heap.size, 5, none⟩ (.int .i64 yr)).setCell ⟨w.heap.size, 6, none⟩ (.int .i64 yv) = wE := ⟨_, rfl⟩
            rw [hwE] at x0 x2
            rw [hwE]
            clear hwE f0 f1 f2 f3 f4 f5 f6 ff g0 g1 g2 g3 g4 g5 g6
            have e0 := qQ (o := 0) x0 rfl
            have e1 := qQ (o := 1) x0 rfl
            have e2 := qQ (o := 2) x0 rfl
            have e3 := qQ (o := 3) x0 rfl
            have e4 := qQ (o := 4) x0 rfl
            have e5 := qQ (o := 5) x0 rfl
            have e6 := qQ (o := 6) x0 rfl
            refine bodyPost_ret (v := .tuple #[Ev.val ⟨yk, yw, yn, yi, ye, yr, yv⟩, .bool true]) (by simp [results, Try.results122, go_sem, e0, e1, e2, e3, e4, e5, e6, Ev.val]) rfl ⟨by rw [qK Hy1, qK Hy2], ?_⟩
            exact Chg.toBw (hB.trans hb2) x2 (fun z hz => hz ▸ Nat.le_refl _)
          · have Hnx := qJ (show k0 = (kW ns.length W st frs (a + 1)).length + (d - vG (st.wt a) ns.length - (oth ns.length W st frs a).length) from by rw [qK Hs]; omega)
            clear hOr hkd hbx
            generalize vG (st.wt a) ns.length = C0 at *
            generalize oth ns.length W st frs a = O0 at *
            obtain ⟨d2, hd2⟩ : ∃ d2, d - C0 = d2 := ⟨_, rfl⟩
            rw [hd2] at hd3 Hnx
            have hdd : (d : Int) - (C0 : Int) = (d2 : Int) := by omega
            have hd4 : ¬ (d2 : Int) < (O0.length : Int) := by omega
            have hd5 : d2 ≤ k0 := by omega
            go_wp2_with (go_at_call 90; refine (qK Hc).mono ?_; rintro en w1 ⟨rfl, rfl⟩)
            refine (qK Hn).mono ?_
            rintro en w2 ⟨v2, rfl, ho2, hb2⟩
            obtain ⟨a2, c2, hve⟩ := ho2.val
            subst hve
            go_wp2_with fail
            go_roundw
            case rel => exact ⟨a + 1, d2 - O0.length, by omega, by go_num, by congr 1; omega, qK Hnx, hB.trans hb2, (Below.block hb2 _ bxl).trans (qK Hbx)⟩
            case measure => simp [intOf]; omega
      · have haa : a = W := by omega
        have ha1 : ¬ (a : Int) < (W : Int) := by omega
        subst haa
        obtain ⟨y1, y2⟩ := (qK Hno) (by omega)
        have Hy1 := qJ y1
        have Hy2 := qJ y2
        clear y1 y2 hkd hbx
        go_wp2_with fail
        obtain ⟨x0, x2⟩ := set7 (qK Hbx) (.int .i64 0) (.int .i64 0) (.int .i64 0) (.int .i64 0) (.int .i64 0) (.int .i64 0) (.int .i64 0)
        obtain ⟨wE, hwE⟩ : ∃ wE, ((((((wr.setCell ⟨w.heap.size, 0, none⟩ (.int .i64 0)).setCell ⟨w.heap.size, 1, none⟩ (.int .i64 0)).setCell ⟨w.heap.size, 2, none⟩ (.int .i64 0)).setCell ⟨w.heap.size, 3, none⟩ (.int .i64 0)).setCell ⟨w.heap.size, 4, none⟩ (.int .i64 0)).setCell ⟨w.heap.size, 5, none⟩ (.int .i64 0)).setCell ⟨w.heap.size, 6, none⟩ (.int .i64 0) = wE := ⟨_, rfl⟩
        rw [hwE] at x0 x2
        rw [hwE]
        clear hwE b0 b1 b2 b3 b4 b5 b6 bf
        have e0 := qQ (o := 0) x0 rfl
        have e1 := qQ (o := 1) x0 rfl
        have e2 := qQ (o := 2) x0 rfl
        have e3 := qQ (o := 3) x0 rfl
        have e4 := qQ (o := 4) x0 rfl
        have e5 := qQ (o := 5) x0 rfl
        have e6 := qQ (o := 6) x0 rfl
        refine bodyPost_ret (v := .tuple #[Ev.val ev0, .bool false]) (by simp [results, Try.results122, go_sem, e0, e1, e2, e3, e4, e5, e6, Ev.val, ev0]) rfl ⟨by rw [qK Hy1, qK Hy2], ?_⟩
        exact Chg.toBw hB x2 (fun z hz => hz ▸ Nat.le_refl _)
end Go.Proofs.Ytfemleimkbjehaa
