import Derived.Test.YtfemleimkbjehaaGreatJ26
set_option maxRecDepth 1000000
set_option maxHeartbeats 40000000
set_option linter.unusedVariables false
set_option linter.unusedSimpArgs false
namespace Go.Proofs.YtfemleimkbjehaaGreat
open Go.RowKit
def yV (l : List Ev) (k : Int) : Ev := if 0 ≤ k ∧ k < l.length then zH l k.toNat else ev0
def actB (l : List Ev) (k : Int) : Bool := decide (0 ≤ k ∧ k < l.length)
theorem pacts_get {L W : Nat} {st : PSt} {frs : Nat → Nat → List Tm} : ∀ a d, a < W → d < (wkN (st.wt a) a L ++ oth L W st frs a).length → zH (kR L W st frs W) ((kR L W st frs a).length + d) = zH (wkN (st.wt a) a L ++ oth L W st frs a) d ∧ (kR L W st frs a).length + d < (kR L W st frs W).length := by
  intro a d ha hd
  have key : ∀ m, a < m → ∃ rest, kR L W st frs m = kR L W st frs a ++ ((wkN (st.wt a) a L ++ oth L W st frs a) ++ rest) := by
    intro m
    induction m with
    | zero => intro h; omega
    | succ m ih =>
      intro hm
      by_cases e : a < m
      · obtain ⟨rest, hr⟩ := ih e
        exact ⟨rest ++ (wkN (st.wt m) m L ++ oth L W st frs m), by rw [kR, hr]; simp [List.append_assoc]⟩
      · have : a = m := by omega
        subst this
        exact ⟨[], by rw [kR]; simp⟩
  obtain ⟨rest, hr⟩ := key W ha
  refine ⟨by rw [hr, evn_right, evn_left hd], ?_⟩
  rw [hr, List.length_append, List.length_append]
  omega
theorem paction_any {S : Nat → Prop} {pb : Nat} {x : PX} {ns : List Nd} {R W : Nat} {D : Nat → Nat → Int} {st : PSt} (frs : Nat → Nat → List Tm) (k : Int) (w : World) (hO : POwn w S pb x ns R W D st) (hF : FrOk S pb x ns R W D st frs) (hk : k ≤ 9223372036854775807) :
    Calls Tryz.prog 97 #[.pointer (some ⟨pb, 0, none⟩), .int .i64 k] w fun en w' => en = .returned (.tuple #[Ev.val (yV (kR ns.length W st frs W) k), .bool (actB (kR ns.length W st frs W) k)]) ∧ Bw w w' := by
  have h8 := hO.small
  have hA0 := heap_alloc_new w (.cells #[.int .i64 0, .int .i64 0, .int .i64 0, .int .i64 0, .int .i64 0, .int .i64 0, .int .i64 0] 110)
  by_cases hneg : k < 0
  · have He : Hid (yV (kR ns.length W st frs W) k = ev0) := qJ (by unfold yV; rw [if_neg (by omega)])
    have Hb : Hid (actB (kR ns.length W st frs W) k = false) := qJ (by unfold actB; exact decide_eq_false (by omega))
    clear hO hF
    go_enter Tryz.func97, Tryz.ntmps97
    have e0 := qQ (o := 0) hA0 rfl
    have e1 := qQ (o := 1) hA0 rfl
    have e2 := qQ (o := 2) hA0 rfl
    have e3 := qQ (o := 3) hA0 rfl
    have e4 := qQ (o := 4) hA0 rfl
    have e5 := qQ (o := 5) hA0 rfl
    have e6 := qQ (o := 6) hA0 rfl
    go_wp2_with fail
    refine bodyPost_ret (v := .tuple #[Ev.val ev0, .bool false]) (by simp [results, Tryz.results97, go_sem, e0, e1, e2, e3, e4, e5, e6, Ev.val, ev0]) rfl ⟨by rw [qK He, qK Hb], (by repeat first|exact br _|assumption|apply bd|apply bn|apply ba|refine bt ?_ (by assumption))⟩
  · clear hA0
    obtain ⟨k0, rfl⟩ := Int.eq_ofNat_of_zero_le (show 0 ≤ k by omega)
    have Hl := qJ (fun k => pacts_len (st := st) (frs := frs) h8.1 h8.2.2.1 (fun i n => (hO.few.1 i n).1) k)
    have Ho := qJ (fun k => oth_len (st := st) (frs := frs) h8.1 h8.2.2.1 k)
    have Hw := qJ (fun i => cwTo_le (f := st.wt i) (B := 100000000) (fun n => (hO.few.1 i n).1) ns.length)
    have Hyes : Hid (k0 < (kR ns.length W st frs W).length → yV (kR ns.length W st frs W) (k0 : Int) = zH (kR ns.length W st frs W) k0 ∧ actB (kR ns.length W st frs W) (k0 : Int) = true) := qJ (fun h => ⟨by unfold yV; rw [if_pos (by omega), Int.toNat_natCast], by unfold actB; exact decide_eq_true (by omega)⟩)
    have Hno : Hid (¬ k0 < (kR ns.length W st frs W).length → yV (kR ns.length W st frs W) (k0 : Int) = ev0 ∧ actB (kR ns.length W st frs W) (k0 : Int) = false) := qJ (fun h => ⟨by unfold yV; rw [if_neg (by omega)], by unfold actB; exact decide_eq_false (by omega)⟩)
    have Hget := qJ (@pacts_get ns.length W st frs)
    have c3 := qQ (o := 3) hO.root hO.r3
    have lt0 := hO.slt _ hO.sroot
    have HO := qJ hO
    have HF := qJ hF
    generalize hPA : yV (kR ns.length W st frs W) (k0 : Int) = PA at *
    generalize hPB : actB (kR ns.length W st frs W) (k0 : Int) = PB at *
    clear hO hF hneg hPA hPB
    go_enter Tryz.func97, Tryz.ntmps97
    go_wp2_with fail
    go_loopw [1, 17] (fun q j wr => ∃ a d : Nat, a ≤ W ∧ j = .int .i64 a ∧ q = .int .i64 d ∧ k0 = (kR ns.length W st frs a).length + d ∧ Bw w wr ∧ wr.heap[w.heap.size]? = some (.cells #[.int .i64 0, .int .i64 0, .int .i64 0, .int .i64 0, .int .i64 0, .int .i64 0, .int .i64 0] 110 (0, 0))) (fun _ j _ => W - (intOf j).toNat)
    case atStart => exact ⟨0, k0, Nat.zero_le _, rfl, rfl, by simp [kR], (by repeat first|exact br _|assumption|apply bd|apply bn|apply ba|refine bt ?_ (by assumption)), heap_alloc_new w _⟩
    case round =>
      clear c3 lt0
      obtain ⟨a, d, ha, rfl, rfl, hkd, hB, hbx⟩ := hrel
      rename World => wr
      have Hbx := qJ hbx
      have bxl := (Array.getElem?_eq_some_iff.1 hbx).1
      have b0 := qQ (o := 0) hbx rfl
      have b1 := qQ (o := 1) hbx rfl
      have b2 := qQ (o := 2) hbx rfl
      have b3 := qQ (o := 3) hbx rfl
      have b4 := qQ (o := 4) hbx rfl
      have b5 := qQ (o := 5) hbx rfl
      have b6 := qQ (o := 6) hbx rfl
      have bf := fun o => qZ (o := o) hbx
      by_cases hlt : a < W
      · have ha1 : (a : Int) < (W : Int) := by omega
        have hOr := (qK HO).bw hB
        have Hc := qJ (pcount_any a wr hOr hlt)
        have Hn := qJ (pnt_any frs a wr hOr (qK HF) hlt)
        have hl2 := (qK Ho) a
        have hl3 := (qK Hw) a
        have Hs : Hid ((kR ns.length W st frs (a + 1)).length = (kR ns.length W st frs a).length + (vB (st.wt a) ns.length + (oth ns.length W st frs a).length)) := qJ (by rw [kR, List.length_append, List.length_append, wkN_cw])
        have hdk : d ≤ k0 := by omega
        by_cases hd : d < vB (st.wt a) ns.length
        · have Hwk := qJ (pworkNo_any a d wr hOr hlt hd)
          have Hg := qJ ((qK Hget) a d hlt (by rw [List.length_append, wkN_cw]; omega))
          rw [← hkd, evn_left (by rw [wkN_cw]; exact hd)] at Hg
          obtain ⟨y1, y2⟩ := (qK Hyes) (qK Hg).2
          have Hy1 := qJ (y1.trans (qK Hg).1)
          have Hy2 := qJ y2
          have hd1 : (d : Int) < ((vB (st.wt a) ns.length : Nat) : Int) := by omega
          generalize vB (st.wt a) ns.length = C0 at *
          generalize zH (wkN (st.wt a) a ns.length) d = y at *
          obtain ⟨yk, yw, yn, yi, ye, yr, yv⟩ := y
          simp only [Ev.val] at Hwk
          clear hOr hkd Hn Hg y1 y2 hbx
          go_wp2_with (first | (go_at_call 71; refine (qK Hc).mono ?_; rintro en w1 ⟨rfl, rfl⟩) | (go_at_call 121; refine (qK Hwk).mono ?_; rintro en w2 ⟨rfl, hb2⟩; have hbx2 := (Below.block hb2 _ bxl).trans (qK Hbx); have f0 := qQ (o := 0) hbx2 rfl; have f1 := qQ (o := 1) hbx2 rfl; have f2 := qQ (o := 2) hbx2 rfl; have f3 := qQ (o := 3) hbx2 rfl; have f4 := qQ (o := 4) hbx2 rfl; have f5 := qQ (o := 5) hbx2 rfl; have f6 := qQ (o := 6) hbx2 rfl; have ff := fun o => qZ (o := o) hbx2; have fl := (Array.getElem?_eq_some_iff.1 hbx2).1; have Hbx2 := qJ hbx2; clear hbx2))
          obtain ⟨x0, x2⟩ := set7 (qK Hbx2) (.int .i64 yk) (.int .i64 yw) (.int .i64 yn) (.int .i64 yi) (.int .i64 ye) (.int .i64 yr) (.int .i64 yv)
          obtain ⟨wE, hwE⟩ : ∃ wE, ((((((w2.setCell ⟨w.heap.size, 0, none⟩ (.int .i64 yk)).setCell ⟨w.heap.size, 1, none⟩ (.int .i64 yw)).setCell ⟨w.heap.size, 2, none⟩ (.int .i64 yn)).setCell ⟨w.heap.size, 3, none⟩ (.int .i64 yi)).setCell ⟨w.heap.size, 4, none⟩ (.int .i64 ye)).setCell ⟨w.heap.size, 5, none⟩ (.int .i64 yr)).setCell ⟨w.heap.size, 6, none⟩ (.int .i64 yv) = wE := ⟨_, rfl⟩
          rw [hwE] at x0 x2
          rw [hwE]
          clear hwE b0 b1 b2 b3 b4 b5 b6 f0 f1 f2 f3 f4 f5 f6 ff
          have e0 := qQ (o := 0) x0 rfl
          have e1 := qQ (o := 1) x0 rfl
          have e2 := qQ (o := 2) x0 rfl
          have e3 := qQ (o := 3) x0 rfl
          have e4 := qQ (o := 4) x0 rfl
          have e5 := qQ (o := 5) x0 rfl
          have e6 := qQ (o := 6) x0 rfl
          refine bodyPost_ret (v := .tuple #[Ev.val ⟨yk, yw, yn, yi, ye, yr, yv⟩, .bool true]) (by simp [results, Tryz.results97, go_sem, e0, e1, e2, e3, e4, e5, e6, Ev.val]) rfl ⟨by rw [qK Hy1, qK Hy2], ?_⟩
          exact Chg.toBw (hB.trans hb2) x2 (fun z hz => hz ▸ Nat.le_refl _)
        · have hd1 : ¬ (d : Int) < ((vB (st.wt a) ns.length : Nat) : Int) := by omega
          by_cases hd3 : d - vB (st.wt a) ns.length < (oth ns.length W st frs a).length
          · have Hg := qJ ((qK Hget) a d hlt (by rw [List.length_append, wkN_cw]; omega))
            have hsp : d = (wkN (st.wt a) a ns.length).length + (d - vB (st.wt a) ns.length) := by rw [wkN_cw]; omega
            rw [← hkd] at Hg
            have hg1 : zH (kR ns.length W st frs W) k0 = zH (oth ns.length W st frs a) (d - vB (st.wt a) ns.length) := by
              rw [(qK Hg).1]
              conv => lhs; rw [hsp]
              exact evn_right
            have Hg1 := qJ hg1
            clear hg1
            obtain ⟨y1, y2⟩ := (qK Hyes) (qK Hg).2
            have Hy1 := qJ (y1.trans (qK Hg1))
            have Hy2 := qJ y2
            clear hOr hkd Hg y1 y2 hbx hsp Hg1
            generalize vB (st.wt a) ns.length = C0 at *
            generalize oth ns.length W st frs a = O0 at *
            obtain ⟨d2, hd2⟩ : ∃ d2, d - C0 = d2 := ⟨_, rfl⟩
            rw [hd2] at hd3 Hy1
            have hdd : (d : Int) - (C0 : Int) = (d2 : Int) := by omega
            have hd4 : (d2 : Int) < (O0.length : Int) := by omega
            go_wp2_with (go_at_call 71; refine (qK Hc).mono ?_; rintro en w1 ⟨rfl, rfl⟩)
            refine (qK Hn).mono ?_
            rintro en w2 ⟨v2, rfl, ho2, hb2⟩
            obtain ⟨a2, c2, hve⟩ := ho2.val
            subst hve
            obtain ⟨eb, eoff, hee, heb, hec⟩ := evsAt_of ho2 d2 hd3
            simp only [kY] at hee
            subst hee
            obtain ⟨g0, g1, g2, g3, g4, g5, g6⟩ := hec d2 hd3
            generalize zH O0 d2 = y at *
            obtain ⟨yk, yw, yn, yi, ye, yr, yv⟩ := y
            simp only at g0 g1 g2 g3 g4 g5 g6
            have hbx2 := (Below.block hb2 _ bxl).trans (qK Hbx)
            have f0 := qQ (o := 0) hbx2 rfl
            have f1 := qQ (o := 1) hbx2 rfl
            have f2 := qQ (o := 2) hbx2 rfl
            have f3 := qQ (o := 3) hbx2 rfl
            have f4 := qQ (o := 4) hbx2 rfl
            have f5 := qQ (o := 5) hbx2 rfl
            have f6 := qQ (o := 6) hbx2 rfl
            have ff := fun o => qZ (o := o) hbx2
            have fl := (Array.getElem?_eq_some_iff.1 hbx2).1
            have Hbx2 := qJ hbx2
            clear hbx2 hec ho2 b0 b1 b2 b3 b4 b5 b6 bf
            go_wp2_with fail
            obtain ⟨x0, x2⟩ := set7 (qK Hbx2) (.int .i64 yk) (.int .i64 yw) (.int .i64 yn) (.int .i64 yi) (.int .i64 ye) (.int .i64 yr) (.int .i64 yv)
            obtain ⟨wE, hwE⟩ : ∃ wE, ((((((w2.setCell ⟨w.heap.size, 0, none⟩ (.int .i64 yk)).setCell ⟨w.heap.size, 1, none⟩ (.int .i64 yw)).setCell ⟨w.heap.size, 2, none⟩ (.int .i64 yn)).setCell ⟨w.heap.size, 3, none⟩ (.int .i64 yi)).setCell ⟨w.heap.size, 4, none⟩ (.int .i64 ye)).setCell ⟨w.heap.size, 5, none⟩ (.int .i64 yr)).setCell ⟨w.heap.size, 6, none⟩ (.int .i64 yv) = wE := ⟨_, rfl⟩
            rw [hwE] at x0 x2
            rw [hwE]
            clear hwE f0 f1 f2 f3 f4 f5 f6 ff g0 g1 g2 g3 g4 g5 g6
            have e0 := qQ (o := 0) x0 rfl
            have e1 := qQ (o := 1) x0 rfl
            have e2 := qQ (o := 2) x0 rfl
            have e3 := qQ (o := 3) x0 rfl
            have e4 := qQ (o := 4) x0 rfl
            have e5 := qQ (o := 5) x0 rfl
            have e6 := qQ (o := 6) x0 rfl
            refine bodyPost_ret (v := .tuple #[Ev.val ⟨yk, yw, yn, yi, ye, yr, yv⟩, .bool true]) (by simp [results, Tryz.results97, go_sem, e0, e1, e2, e3, e4, e5, e6, Ev.val]) rfl ⟨by rw [qK Hy1, qK Hy2], ?_⟩
            exact Chg.toBw (hB.trans hb2) x2 (fun z hz => hz ▸ Nat.le_refl _)
          · have Hnx := qJ (show k0 = (kR ns.length W st frs (a + 1)).length + (d - vB (st.wt a) ns.length - (oth ns.length W st frs a).length) from by rw [qK Hs]; omega)
            clear hOr hkd hbx
            generalize vB (st.wt a) ns.length = C0 at *
            generalize oth ns.length W st frs a = O0 at *
            obtain ⟨d2, hd2⟩ : ∃ d2, d - C0 = d2 := ⟨_, rfl⟩
            rw [hd2] at hd3 Hnx
            have hdd : (d : Int) - (C0 : Int) = (d2 : Int) := by omega
            have hd4 : ¬ (d2 : Int) < (O0.length : Int) := by omega
            have hd5 : d2 ≤ k0 := by omega
            go_wp2_with (go_at_call 71; refine (qK Hc).mono ?_; rintro en w1 ⟨rfl, rfl⟩)
            refine (qK Hn).mono ?_
            rintro en w2 ⟨v2, rfl, ho2, hb2⟩
            obtain ⟨a2, c2, hve⟩ := ho2.val
            subst hve
            go_wp2_with fail
            go_roundw
            case rel => exact ⟨a + 1, d2 - O0.length, by omega, by go_num, by congr 1; omega, qK Hnx, hB.trans hb2, (Below.block hb2 _ bxl).trans (qK Hbx)⟩
            case measure => simp [intOf]; omega
      · have haa : a = W := by omega
        have ha1 : ¬ (a : Int) < (W : Int) := by omega
        subst haa
        obtain ⟨y1, y2⟩ := (qK Hno) (by omega)
        have Hy1 := qJ y1
        have Hy2 := qJ y2
        clear y1 y2 hkd hbx
        go_wp2_with fail
        obtain ⟨x0, x2⟩ := set7 (qK Hbx) (.int .i64 0) (.int .i64 0) (.int .i64 0) (.int .i64 0) (.int .i64 0) (.int .i64 0) (.int .i64 0)
        obtain ⟨wE, hwE⟩ : ∃ wE, ((((((wr.setCell ⟨w.heap.size, 0, none⟩ (.int .i64 0)).setCell ⟨w.heap.size, 1, none⟩ (.int .i64 0)).setCell ⟨w.heap.size, 2, none⟩ (.int .i64 0)).setCell ⟨w.heap.size, 3, none⟩ (.int .i64 0)).setCell ⟨w.heap.size, 4, none⟩ (.int .i64 0)).setCell ⟨w.heap.size, 5, none⟩ (.int .i64 0)).setCell ⟨w.heap.size, 6, none⟩ (.int .i64 0) = wE := ⟨_, rfl⟩
        rw [hwE] at x0 x2
        rw [hwE]
        clear hwE b0 b1 b2 b3 b4 b5 b6 bf
        have e0 := qQ (o := 0) x0 rfl
        have e1 := qQ (o := 1) x0 rfl
        have e2 := qQ (o := 2) x0 rfl
        have e3 := qQ (o := 3) x0 rfl
        have e4 := qQ (o := 4) x0 rfl
        have e5 := qQ (o := 5) x0 rfl
        have e6 := qQ (o := 6) x0 rfl
        refine bodyPost_ret (v := .tuple #[Ev.val ev0, .bool false]) (by simp [results, Tryz.results97, go_sem, e0, e1, e2, e3, e4, e5, e6, Ev.val, ev0]) rfl ⟨by rw [qK Hy1, qK Hy2], ?_⟩
        exact Chg.toBw hB x2 (fun z hz => hz ▸ Nat.le_refl _)
theorem grp_of_block {w : World} {B o : Nat} {arr : Array Value} {ty : TypeId} {Sg : Nat → Int} {Mg : Nat → Bool} (h : w.heap[B]? = some (.cells arr ty (0, 0))) (h1 : ∀ g, g < 8 → arr[o + g]? = some (.int .i64 (Sg g))) (h2 : ∀ g, g < 8 → arr[o + 8 + g]? = some (.bool (Mg g))) : Grp w B o Sg Mg :=
  ⟨(Array.getElem?_eq_some_iff.1 h).1, fun g hg => qQ h (h1 g hg), fun g hg => qQ h (h2 g hg), fun _ => qZ h⟩
theorem add_after {X w1 : World} {B p1 p2 : Nat} {arr : Array Value} {ty : TypeId} {v1 v2 : Value} (hX : X.heap[B]? = some (.cells arr ty (0, 0))) (hb1 : Bw ((X.setCell ⟨B, p1, none⟩ v1).setCell ⟨B, p2, none⟩ v2) w1) : w1.heap[B]? = some (.cells ((arr.setIfInBounds p1 v1).setIfInBounds p2 v2) ty (0, 0)) ∧ Chg (fun x => x = B) X w1 := by
  have h2 := qU (k := p2) (v := v2) (qU (k := p1) (v := v1) hX)
  exact ⟨(Below.block hb1 _ (Array.getElem?_eq_some_iff.1 h2).1).trans h2, ((qP _ _ _ _).trans (qP _ _ _ _) (fun _ h => .inl h)).trans (Chg.bw (S := fun x => x = B) hb1) (fun _ h => .inl h)⟩
theorem ptadd_any (v q : Int) (B o e s g : Nat) (arr : Array Value) (ty : TypeId) (Sg : Nat → Int) (Mg : Nat → Bool) (b : Bool) (w : World) (hB : w.heap[B]? = some (.cells arr ty (0, 0))) (he : e < 6) (hs : s < 4) (h1 : ∀ g, g < 8 → arr[o + 24 + e * 64 + s * 16 + g]? = some (.int .i64 (Sg g))) (h2 : ∀ g, g < 8 → arr[o + 24 + e * 64 + s * 16 + 8 + g]? = some (.bool (Mg g))) (h3 : arr[o + e * 4 + s]? = some (.bool b)) (hq1 : 1 ≤ q) (hq8 : q ≤ 8) (hg : v % q = g) (hg8 : g < 8) :
    Calls Tryz.prog 128 #[.pointer (some ⟨B, o, none⟩), .agg #[.int .i64 (e : Int), .int .i64 (s : Int)], .int .i64 v, .int .i64 q] w fun en w' => en = .returned (.bool (!b)) ∧ w'.heap[B]? = some (.cells (((arr.setIfInBounds (o + 24 + e * 64 + s * 16 + g) (.int .i64 (wrap64 (Sg g + v)))).setIfInBounds (o + 24 + e * 64 + s * 16 + 8 + g) (.bool true)).setIfInBounds (o + e * 4 + s) (.bool true)) ty (0, 0)) ∧ Chg (fun x => x = B) w w' := by
  have Hadd := qJ (fun (w' : World) (h : Bw w w') => gadd_any v q B (o + 24 + e * 64 + s * 16) g Sg Mg w' (grp_of_block ((Below.block h _ (Array.getElem?_eq_some_iff.1 hB).1).trans hB) h1 h2) hq1 hq8 hg hg8)
  have HB := qJ hB
  have lt0 := (Array.getElem?_eq_some_iff.1 hB).1
  have he1 : (e : Int) < 6 := by omega
  have hs1 : (s : Int) < 4 := by omega
  have Hw3 := qJ (show (((arr.setIfInBounds (o + 24 + e * 64 + s * 16 + g) (.int .i64 (wrap64 (Sg g + v)))).setIfInBounds (o + 24 + e * 64 + s * 16 + 8 + g) (.bool true)))[o + e * 4 + s]? = some (.bool b) from by rw [Array.getElem?_setIfInBounds_ne (by omega), Array.getElem?_setIfInBounds_ne (by omega)]; exact h3)
  clear hB h1 h2 h3
  go_enter Tryz.func128, Tryz.ntmps128
  go_wp2_with fail
  go_region_with (go_at_call 130; refine ((qK Hadd) _ (by repeat first|exact br _|assumption|apply bd|apply bn|apply ba|refine bt ?_ (by assumption))).mono ?_; rintro en w1 ⟨rfl, hb1⟩; have Hb1 := qJ (add_after ((Below.block (show Bw w _ from (by repeat first|exact br _|assumption|apply bd|apply bn|apply ba|refine bt ?_ (by assumption))) _ lt0).trans (qK HB)) hb1); clear hb1)
  all_goals (
    obtain ⟨h1, hC1⟩ := qK Hb1
    have hbx := (hC1.block w.heap.size (by simp) (by omega)).trans (show ((w.alloc (.cells #[.int .i64 (e : Int), .int .i64 (s : Int)] 72)).drew).heap[w.heap.size]? = some (.cells #[.int .i64 (e : Int), .int .i64 (s : Int)] 72 (0, 0)) from heap_alloc_new w _)
    have t0 := qQ (o := 0) hbx rfl
    have t1 := qQ (o := 1) hbx rfl
    have tl := (Array.getElem?_eq_some_iff.1 hbx).1
    have c3 := qQ h1 (qK Hw3)
    have c3f := qZ (o := o + e * 4 + s) h1
    have c3l := (Array.getElem?_eq_some_iff.1 h1).1
    have HC : Hid (Chg (fun x => x = B) w w1) := qJ ((Chg.bw (S := fun x => x = B) (show Bw w ((w.alloc (.cells #[.int .i64 (e : Int), .int .i64 (s : Int)] 72)).drew) from (by repeat first|exact br _|assumption|apply bd|apply bn|apply ba|refine bt ?_ (by assumption)))).trans hC1 (fun _ h => .inl h))
    have H1 := qJ h1
    clear h1 hC1 Hb1 hbx
    go_wp2_with fail
    go_region
    go_wp2_with fail
    go_region
    go_wp2_with fail
    go_ret
    have h2 := qU (k := o + e * 4 + s) (v := .bool true) (qK H1)
    have hbd : Bw (w1.setCell ⟨B, o + e * 4 + s, none⟩ (.bool true)) ((w1.setCell ⟨B, o + e * 4 + s, none⟩ (.bool true)).drew.drew) := (by repeat first|exact br _|assumption|apply bd|apply bn|apply ba|refine bt ?_ (by assumption))
    exact ⟨rfl, (Below.block hbd _ (Array.getElem?_eq_some_iff.1 h2).1).trans h2, ((qK HC).trans (qP w1 B (o + e * 4 + s) (.bool true)) (fun _ h => .inl h)).trans (Chg.bw (S := fun x => x = B) hbd) (fun _ h => .inl h)⟩)
def setL (arr : Array Value) (o : Nat) : List Value → Array Value
  | [] => arr
  | v :: vs => setL (arr.setIfInBounds o v) (o + 1) vs
theorem setL_size : ∀ (vs : List Value) (arr : Array Value) (o : Nat), (setL arr o vs).size = arr.size := by
  intro vs
  induction vs with
  | nil => intro arr o; rfl
  | cons v vs ih => intro arr o; rw [setL, ih]; simp
theorem setL_out : ∀ (vs : List Value) (arr : Array Value) (o p : Nat), (p < o ∨ o + vs.length ≤ p) → (setL arr o vs)[p]? = arr[p]? := by
  intro vs
  induction vs with
  | nil => intro arr o p _; rfl
  | cons v vs ih =>
    intro arr o p hp
    simp only [List.length_cons] at hp
    rw [setL, ih _ _ _ (by omega), Array.getElem?_setIfInBounds_ne (by omega)]
theorem setL_in : ∀ (vs : List Value) (arr : Array Value) (o j : Nat), j < vs.length → o + vs.length ≤ arr.size → (setL arr o vs)[o + j]? = vs[j]? := by
  intro vs
  induction vs with
  | nil => intro arr o j hj; simp at hj
  | cons v vs ih =>
    intro arr o j hj hs
    simp only [List.length_cons] at hj hs
    cases j with
    | zero => rw [setL, setL_out _ _ _ _ (by omega), Nat.add_zero, Array.getElem?_setIfInBounds_self_of_lt (by omega)]; rfl
    | succ j =>
      rw [setL, show o + (j + 1) = o + 1 + j by omega, ih _ _ _ (by omega) (by simp; omega)]
      simp
theorem heap_setL {B : Nat} {ty : TypeId} : ∀ (vs : List Value) (w : World) (o : Nat) (arr : Array Value), w.heap[B]? = some (.cells arr ty (0, 0)) → (w.setCells B o vs).heap[B]? = some (.cells (setL arr o vs) ty (0, 0)) ∧ Chg (fun x => x = B) w (w.setCells B o vs) := by
  intro vs
  induction vs with
  | nil => intro w o arr h; exact ⟨h, Chg.refl _ _⟩
  | cons v vs ih =>
    intro w o arr h
    obtain ⟨h1, h2⟩ := ih (w.setCell ⟨B, o, none⟩ v) (o + 1) _ (qU h)
    exact ⟨h1, (qP w B o v).trans h2 (fun _ h => .inl h)⟩
theorem pttake_any (B o e s : Nat) (arr : Array Value) (ty : TypeId) (Sg : Nat → Int) (Mg : Nat → Bool) (b : Bool) (w : World) (hB : w.heap[B]? = some (.cells arr ty (0, 0))) (he : e < 6) (hs : s < 4) (h1 : ∀ g, g < 8 → arr[o + 24 + e * 64 + s * 16 + g]? = some (.int .i64 (Sg g))) (h2 : ∀ g, g < 8 → arr[o + 24 + e * 64 + s * 16 + 8 + g]? = some (.bool (Mg g))) (h3 : arr[o + e * 4 + s]? = some (.bool b)) :
    Calls Tryz.prog 123 #[.pointer (some ⟨B, o, none⟩), .agg #[.int .i64 (e : Int), .int .i64 (s : Int)]] w fun en w' => ∃ u, en = .returned u ∧ OwnsIn (fun z => w.heap.size ≤ z) w' 3 1 u (vQ Sg Mg 8).length ((vQ Sg Mg 8).map (Value.int .i64)) ∧ Chg (fun x => x = B) w w' ∧ w'.heap[B]? = some (.cells ((setL arr (o + 24 + e * 64 + s * 16) [.int .i64 0, .int .i64 0, .int .i64 0, .int .i64 0, .int .i64 0, .int .i64 0, .int .i64 0, .int .i64 0, .bool false, .bool false, .bool false, .bool false, .bool false, .bool false, .bool false, .bool false]).setIfInBounds (o + e * 4 + s) (.bool false)) ty (0, 0)) := by
  have Hsum := qJ (fun (w' : World) (h : Bw w w') => gsums_any B (o + 24 + e * 64 + s * 16) Sg Mg w' (grp_of_block ((Below.block h _ (Array.getElem?_eq_some_iff.1 hB).1).trans hB) h1 h2))
  have HB := qJ hB
  have lt0 := (Array.getElem?_eq_some_iff.1 hB).1
  have he1 : (e : Int) < 6 := by omega
  have hs1 : (s : Int) < 4 := by omega
  clear hB
  go_enter Tryz.func123, Tryz.ntmps123
  go_wp2_with fail
  go_region_with (go_at_call 129; refine ((qK Hsum) _ (by repeat first|exact br _|assumption|apply bd|apply bn|apply ba|refine bt ?_ (by assumption))).mono ?_; rintro en w1 ⟨v, rfl, ho1, hb1⟩)
  all_goals (
    have hB1 := (Below.block ((show Bw w ((w.alloc (.cells #[.int .i64 (e : Int), .int .i64 (s : Int)] 72)).drew) from (by repeat first|exact br _|assumption|apply bd|apply bn|apply ba|refine bt ?_ (by assumption))).trans hb1) _ lt0).trans (qK HB)
    have hbx := (Below.block hb1 w.heap.size (by simp)).trans (show ((w.alloc (.cells #[.int .i64 (e : Int), .int .i64 (s : Int)] 72)).drew).heap[w.heap.size]? = some (.cells #[.int .i64 (e : Int), .int .i64 (s : Int)] 72 (0, 0)) from heap_alloc_new w _)
    have t0 := qQ (o := 0) hbx rfl
    have t1 := qQ (o := 1) hbx rfl
    have tl := (Array.getElem?_eq_some_iff.1 hbx).1
    have k0 := fun g hg => qQ hB1 (h1 g hg)
    have k1 := fun g hg => qQ hB1 (h2 g hg)
    have kf := fun o => qZ (o := o) hB1
    have kl := (Array.getElem?_eq_some_iff.1 hB1).1
    have q0 : w1.cell? ⟨B, o + 24 + e * 64 + s * 16, none⟩ = some (.int .i64 (Sg 0)) := k0 0 (by omega)
    have q1 : w1.cell? ⟨B, o + 24 + e * 64 + s * 16 + 1, none⟩ = some (.int .i64 (Sg 1)) := k0 1 (by omega)
    have q2 : w1.cell? ⟨B, o + 24 + e * 64 + s * 16 + 2, none⟩ = some (.int .i64 (Sg 2)) := k0 2 (by omega)
    have q3 : w1.cell? ⟨B, o + 24 + e * 64 + s * 16 + 3, none⟩ = some (.int .i64 (Sg 3)) := k0 3 (by omega)
    have q4 : w1.cell? ⟨B, o + 24 + e * 64 + s * 16 + 4, none⟩ = some (.int .i64 (Sg 4)) := k0 4 (by omega)
    have q5 : w1.cell? ⟨B, o + 24 + e * 64 + s * 16 + 5, none⟩ = some (.int .i64 (Sg 5)) := k0 5 (by omega)
    have q6 : w1.cell? ⟨B, o + 24 + e * 64 + s * 16 + 6, none⟩ = some (.int .i64 (Sg 6)) := k0 6 (by omega)
    have q7 : w1.cell? ⟨B, o + 24 + e * 64 + s * 16 + 7, none⟩ = some (.int .i64 (Sg 7)) := k0 7 (by omega)
    have p0 : w1.cell? ⟨B, o + 24 + e * 64 + s * 16 + 8, none⟩ = some (.bool (Mg 0)) := k1 0 (by omega)
    have p1 : w1.cell? ⟨B, o + 24 + e * 64 + s * 16 + 9, none⟩ = some (.bool (Mg 1)) := k1 1 (by omega)
    have p2 : w1.cell? ⟨B, o + 24 + e * 64 + s * 16 + 10, none⟩ = some (.bool (Mg 2)) := k1 2 (by omega)
    have p3 : w1.cell? ⟨B, o + 24 + e * 64 + s * 16 + 11, none⟩ = some (.bool (Mg 3)) := k1 3 (by omega)
    have p4 : w1.cell? ⟨B, o + 24 + e * 64 + s * 16 + 12, none⟩ = some (.bool (Mg 4)) := k1 4 (by omega)
    have p5 : w1.cell? ⟨B, o + 24 + e * 64 + s * 16 + 13, none⟩ = some (.bool (Mg 5)) := k1 5 (by omega)
    have p6 : w1.cell? ⟨B, o + 24 + e * 64 + s * 16 + 14, none⟩ = some (.bool (Mg 6)) := k1 6 (by omega)
    have p7 : w1.cell? ⟨B, o + 24 + e * 64 + s * 16 + 15, none⟩ = some (.bool (Mg 7)) := k1 7 (by omega)
    clear k0 k1
    obtain ⟨x1, x2⟩ := heap_setL [.int .i64 0, .int .i64 0, .int .i64 0, .int .i64 0, .int .i64 0, .int .i64 0, .int .i64 0, .int .i64 0, .bool false, .bool false, .bool false, .bool false, .bool false, .bool false, .bool false, .bool false] w1 (o + 24 + e * 64 + s * 16) arr hB1
    have hch : (((((((((((((((w1.setCell ⟨B, o + 24 + e * 64 + s * 16, none⟩ (.int .i64 0)).setCell ⟨B, o + 24 + e * 64 + s * 16 + 1, none⟩ (.int .i64 0)).setCell ⟨B, o + 24 + e * 64 + s * 16 + 2, none⟩ (.int .i64 0)).setCell ⟨B, o + 24 + e * 64 + s * 16 + 3, none⟩ (.int .i64 0)).setCell ⟨B, o + 24 + e * 64 + s * 16 + 4, none⟩ (.int .i64 0)).setCell ⟨B, o + 24 + e * 64 + s * 16 + 5, none⟩ (.int .i64 0)).setCell ⟨B, o + 24 + e * 64 + s * 16 + 6, none⟩ (.int .i64 0)).setCell ⟨B, o + 24 + e * 64 + s * 16 + 7, none⟩ (.int .i64 0)).setCell ⟨B, o + 24 + e * 64 + s * 16 + 8, none⟩ (.bool false)).setCell ⟨B, o + 24 + e * 64 + s * 16 + 9, none⟩ (.bool false)).setCell ⟨B, o + 24 + e * 64 + s * 16 + 10, none⟩ (.bool false)).setCell ⟨B, o + 24 + e * 64 + s * 16 + 11, none⟩ (.bool false)).setCell ⟨B, o + 24 + e * 64 + s * 16 + 12, none⟩ (.bool false)).setCell ⟨B, o + 24 + e * 64 + s * 16 + 13, none⟩ (.bool false)).setCell ⟨B, o + 24 + e * 64 + s * 16 + 14, none⟩ (.bool false)).setCell ⟨B, o + 24 + e * 64 + s * 16 + 15, none⟩ (.bool false) = w1.setCells B (o + 24 + e * 64 + s * 16) [.int .i64 0, .int .i64 0, .int .i64 0, .int .i64 0, .int .i64 0, .int .i64 0, .int .i64 0, .int .i64 0, .bool false, .bool false, .bool false, .bool false, .bool false, .bool false, .bool false, .bool false] := rfl
    have c3 : (w1.setCells B (o + 24 + e * 64 + s * 16) [.int .i64 0, .int .i64 0, .int .i64 0, .int .i64 0, .int .i64 0, .int .i64 0, .int .i64 0, .int .i64 0, .bool false, .bool false, .bool false, .bool false, .bool false, .bool false, .bool false, .bool false]).cell? ⟨B, o + e * 4 + s, none⟩ = some (.bool b) := qQ x1 (by rw [setL_out _ _ _ _ (by left; omega)]; exact h3)
    have c3f := qZ (o := o + e * 4 + s) x1
    have c3l := (Array.getElem?_eq_some_iff.1 x1).1
    have hbx1 := (x2.block w.heap.size tl (by omega)).trans hbx
    have z0 := qQ (o := 0) hbx1 rfl
    have z1 := qQ (o := 1) hbx1 rfl
    have zl := (Array.getElem?_eq_some_iff.1 hbx1).1
    have Hx1 := qJ x1
    have Hx2 := qJ x2
    have Hch := qJ hch
    obtain ⟨va, vc, hve⟩ : ∃ va vc, v = .slice va (vQ Sg Mg 8).length vc := ⟨_, _, qV (n := (vQ Sg Mg 8).length) (by simpa [Own] using ho1)⟩
    subst hve
    have Ho1 := qJ ho1
    have Hbx1 := qJ hbx1
    generalize hwZ : w1.setCells B (o + 24 + e * 64 + s * 16) [.int .i64 0, .int .i64 0, .int .i64 0, .int .i64 0, .int .i64 0, .int .i64 0, .int .i64 0, .int .i64 0, .bool false, .bool false, .bool false, .bool false, .bool false, .bool false, .bool false, .bool false] = wZ at *
    clear x1 x2 hch hwZ ho1 hbx hbx1 h1 h2 h3
    go_wp2_with fail
    go_region
    all_goals (
      rw [qK Hch]
      go_wp2_with fail
      go_region
      go_wp2_with fail
      go_ret
      have hbd : Bw (wZ.setCell ⟨B, o + e * 4 + s, none⟩ (.bool false)) ((wZ.setCell ⟨B, o + e * 4 + s, none⟩ (.bool false)).drew.drew) := (by repeat first|exact br _|assumption|apply bd|apply bn|apply ba|refine bt ?_ (by assumption))
      have y2 := qU (k := o + e * 4 + s) (v := .bool false) (qK Hx1)
      have hC : Chg (fun x => x = B) w1 ((wZ.setCell ⟨B, o + e * 4 + s, none⟩ (.bool false)).drew.drew) := ((qK Hx2).trans (qP wZ B (o + e * 4 + s) (.bool false)) (fun _ h => .inl h)).trans (Chg.bw (S := fun x => x = B) hbd) (fun _ h => .inl h)
      have hB01 : Bw w w1 := (show Bw w ((w.alloc (.cells #[.int .i64 (e : Int), .int .i64 (s : Int)] 72)).drew) from (by repeat first|exact br _|assumption|apply bd|apply bn|apply ba|refine bt ?_ (by assumption))).trans hb1
      refine ⟨_, rfl, ⟨qM (kK (show w1.ownsRow _ 3 1 _ _ ((vQ Sg Mg 8).map (Value.int .i64)) from qK Ho1) fun z hz => hC.block z (World.ownsRow.lt (qK Ho1) z hz).2 (fun e2 => ?_)) (Nat.zero_le _), fun z hz => ?_⟩, (Chg.bw (S := fun x => x = B) hB01).trans hC (fun _ h => .inl h), (Below.block hbd _ (Array.getElem?_eq_some_iff.1 y2).1).trans y2⟩
      · have h5 := (World.ownsRow.lt (qK Ho1) z hz).1
        simp at h5
        omega
      · have h5 := (World.ownsRow.lt (qK Ho1) z hz).1
        simp at h5
        omega))
end Go.Proofs.YtfemleimkbjehaaGreat
