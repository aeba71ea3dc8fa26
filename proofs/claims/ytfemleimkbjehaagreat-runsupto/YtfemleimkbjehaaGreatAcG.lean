import Derived.Test.YtfemleimkbjehaaGreatJ29
import Derived.Test.YtfemleimkbjehaaGreatJ35
import Derived.Deep.CutBlock
set_option maxRecDepth 1000000
set_option maxHeartbeats 40000000
set_option linter.unusedVariables false
set_option linter.unusedSimpArgs false
namespace Go.Proofs.YtfemleimkbjehaaGreat
open Go.RowKit
theorem wrap64_left' (n : Int) : IntKind.i64.wrap n = wrap64 n := by unfold wrap64; rw [IntKind.wrap_i64]
theorem alloc3d (w : World) (A B C : Obj) : (((w.alloc A).alloc B).alloc C).drew.heap[w.heap.size]? = some A ∧ (((w.alloc A).alloc B).alloc C).drew.heap[w.heap.size + 1]? = some B ∧ (((w.alloc A).alloc B).alloc C).drew.heap[w.heap.size + 1 + 1]? = some C ∧ Bw w (((w.alloc A).alloc B).alloc C).drew := by
  obtain ⟨a, b, c, d⟩ := alloc3 w A B C
  exact ⟨a, b, c, d.trans (by repeat first|exact br _|assumption|apply bd|apply bn|apply ba|refine bt ?_ (by assumption))⟩
theorem rwork_any {S : Nat → Prop} {rb : Nat} {x : RX} {ns : List Nd} {R W : Nat} {D : Nat → Nat → Int} {st : RSt} (y : Ev) (a n i z s : Nat) (w : World) (hO : ROwn w S rb x ns R W D st) (hya : y.worker = a) (hyn : y.node = n) (hyi : y.index = i) (hys : y.round = s) (hn : n < ns.length) (hs : s < 4)
    (hi : i < (kJ st.mails a n st.mails.length).length) (hz : jD (kJ st.mails a n st.mails.length) i = z) (hlm : st.mails.length + 8 ≤ 100000000) (hll : st.log.length + 1 ≤ 100000000) (h6 : ∀ k, k < ns.length → (qT ns k).kind = 6 → 1 ≤ (qT ns k).k ∧ (qT ns k).k ≤ 8) (h2 : ∀ k, k < ns.length → (qT ns k).kind = 2 → 1 ≤ (qT ns k).k ∧ (qT ns k).k ≤ 100) :
    Calls Tryz.prog 76 #[.pointer (some ⟨rb, 0, none⟩), .agg #[.int .i64 y.kind, .int .i64 y.worker, .int .i64 y.node, .int .i64 y.index, .int .i64 y.epoch, .int .i64 y.round, .int .i64 y.value]] w fun en w' => en = .returned (.tuple #[]) ∧ ROwn.After w w' S rb ns R W D (workS ns R W st y z) := by
  obtain ⟨s1, s2, s3, s4, s5⟩ := hO.small
  have hzl : z < st.mails.length := by
    obtain ⟨j, e, hj⟩ := waitTo_mem (ms := st.mails) (w := a) (n := n) (k := st.mails.length) _ (nth_mem hi)
    rw [hz] at e
    omega
  obtain ⟨yk, yw, yn, yi, ye, yr, yv⟩ := y
  simp only at hya hyn hyi hys
  subst hya hyn hyi hys
  have HU : Hid (wkU ns R st.evs ⟨yk, a, n, i, ye, s, yv⟩ = if (qT ns n).kind == 2 then yv % (qT ns n).k == (qT ns n).m else if (qT ns n).kind == 4 then decide ((s : Int) + 1 < (R : Int)) else if (qT ns n).kind == 5 then !meTo st.evs ⟨yk, a, n, i, ye, s, yv⟩ st.evs.length else if (qT ns n).kind == 6 then false else if (qT ns n).kind == 7 then false else true) := qJ (by unfold wkU; simp only [Int.toNat_natCast])
  have HM : Hid (wkM ns ⟨yk, a, n, i, ye, s, yv⟩ = ⟨ye, if (qT ns n).kind == 4 then (s : Int) + 1 else s, wrap64 (yv + addB (qT ns n))⟩) := qJ (by unfold wkM; simp only [Int.toNat_natCast])
  have HQ : Hid (wkQ ns st.evs ⟨yk, a, n, i, ye, s, yv⟩ = if (qT ns n).kind == 6 && (jU st.evs a n ye s st.evs.length).length == 0 then [⟨n, false, ye, s, -1⟩, ⟨n, true, ye, s, 1⟩] else [⟨n, false, ye, s, -1⟩]) := qJ (by unfold wkQ; simp only [Int.toNat_natCast])
  have HW : Hid (workS ns R W st ⟨yk, a, n, i, ye, s, yv⟩ z = { st with mails := jP st.mails z ++ (if wkU ns R st.evs ⟨yk, a, n, i, ye, s, yv⟩ then yC ns W a n (wkM ns ⟨yk, a, n, i, ye, s, yv⟩) ns.length else []), log := st.log ++ [⟨a, wkQ ns st.evs ⟨yk, a, n, i, ye, s, yv⟩ ++ (if wkU ns R st.evs ⟨yk, a, n, i, ye, s, yv⟩ then jR ns n (wkM ns ⟨yk, a, n, i, ye, s, yv⟩) ns.length else [])⟩] }) := qJ rfl
  generalize wkU ns R st.evs ⟨yk, a, n, i, ye, s, yv⟩ = U at *
  generalize wkM ns ⟨yk, a, n, i, ye, s, yv⟩ = M at *
  generalize wkQ ns st.evs ⟨yk, a, n, i, ye, s, yv⟩ = Q1 at *
  have hk2 := h2 n hn
  have HQl : Hid (Q1.length ≤ 2) := qJ (by rw [qK HQ]; split <;> simp)
  have Hw := qJ (fun (w' : World) (h : Bw w w') => rwaits_any (a : Int) (n : Int) w' (hO.bw h).read)
  have HO := qJ hO
  clear hO
  go_enter Tryz.func76, Tryz.ntmps76
  go_wp2_with fail
  refine ((qK Hw) _ (by repeat first|exact br _|assumption|apply bd|apply bn|apply ba|refine bt ?_ (by assumption))).mono ?_
  rintro en w1 ⟨va, rfl, hoa, hb1⟩
  have hB1 : Bw w w1 := (show Bw w (w.alloc (.cells #[.int .i64 yk, .int .i64 (a : Int), .int .i64 (n : Int), .int .i64 (i : Int), .int .i64 ye, .int .i64 (s : Int), .int .i64 yv] 110)) from (by repeat first|exact br _|assumption|apply bd|apply bn|apply ba|refine bt ?_ (by assumption))).trans hb1
  have hbx1 := (Below.block hb1 w.heap.size (by simp)).trans (heap_alloc_new w (.cells #[.int .i64 yk, .int .i64 (a : Int), .int .i64 (n : Int), .int .i64 (i : Int), .int .i64 ye, .int .i64 (s : Int), .int .i64 yv] 110))
  obtain ⟨aa, ac, hve⟩ : ∃ aa ac, va = .slice aa (kJ st.mails a n st.mails.length).length ac := ⟨_, _, qV (n := (kJ st.mails a n st.mails.length).length) (by simpa [Own] using hoa)⟩
  subst hve
  obtain ⟨ib, ioff, hae, hib, hic⟩ := hoa.form'.1 i hi
  subst hae
  have i0 := hic i hi
  rw [hz] at i0
  have hO1 := (qK HO).bw hB1
  obtain ⟨mg, mc, cur, hme, hSg, hmh, hO2⟩ := hO1.setGone hzl
  have r3 := qQ (o := 3) (u := x.m) hO1.root rfl
  rw [hme] at r3
  have rl1 := (Array.getElem?_eq_some_iff.1 hO1.root).1
  have mz : w1.cell? ⟨mg, z * 6 + 5, none⟩ = some (.bool (xX st.mails z).gone) := by
    obtain ⟨b, off, e, _, hc⟩ := hO1.read.mails z hzl
    have e2 : (rvOf x).ma = some ⟨mg, 0, none⟩ := by simp only [rvOf, hme, kY]
    rw [e2] at e
    simp only [Option.some.injEq, Addr.mk.injEq, and_true] at e
    obtain ⟨e3, e4⟩ := e
    have := (hc z hzl).2.2.2.2.2
    rw [← e3, ← e4] at this
    simpa using this
  have mzf := qZ (o := z * 6 + 5) hmh
  have mgl := (Array.getElem?_eq_some_iff.1 hmh).1
  have hi1 : (i : Int) < ((kJ st.mails a n st.mails.length).length : Int) := by omega
  have hz1 : (z : Int) < (st.mails.length : Int) := by omega
  have b3 := qQ (o := 3) hbx1 rfl
  have bl1 := (Array.getElem?_eq_some_iff.1 hbx1).1
  have HO2 := qJ hO2
  have Hbx1 := qJ hbx1
  clear hO1 hO2 hbx1 hoa hic Hw hmh hme
  generalize kJ st.mails a n st.mails.length = al at *
  go_wp2_with fail
  go_region
  obtain ⟨wG, hwG⟩ : ∃ wG, (w1.setCell ⟨mg, z * 6 + 5, none⟩ (.bool true)).drew = wG := ⟨_, rfl⟩
  have hOG := (qK HO2).bw (show Bw _ (w1.setCell ⟨mg, z * 6 + 5, none⟩ (.bool true)).drew from (by repeat first|exact br _|assumption|apply bd|apply bn|apply ba|refine bt ?_ (by assumption)))
  have hCG : Chg S w (w1.setCell ⟨mg, z * 6 + 5, none⟩ (.bool true)).drew := ((Chg.bw (S := S) hB1).trans (qP w1 mg (z * 6 + 5) (.bool true)) (fun b h => .inl (h ▸ hSg))).trans (Chg.bw (S := S) (by repeat first|exact br _|assumption|apply bd|apply bn|apply ba|refine bt ?_ (by assumption))) (fun _ h => .inl h)
  have hnE : ¬ S w.heap.size := fun h => by have := (qK HO).slt _ h; omega
  have hbxG : (w1.setCell ⟨mg, z * 6 + 5, none⟩ (.bool true)).drew.heap[w.heap.size]? = _ := (Below.heap_setCell w1 ⟨mg, z * 6 + 5, none⟩ (.bool true) w.heap.size (fun e9 => hnE (e9 ▸ hSg))).trans (qK Hbx1)
  rw [hwG] at hOG hCG hbxG
  rw [hwG]
  clear hwG
  have HOG := qJ hOG
  have HCG := qJ hCG
  have HbxG := qJ hbxG
  obtain ⟨na, nc, hvn⟩ : ∃ na nc, x.n = .slice na ns.length nc := ⟨_, _, qV hOG.nodes.1⟩
  obtain ⟨nb, noff, hnae, hnb, hnc⟩ := (nodesAt_row hOG.nodes.1) n hn
  rw [hvn] at hnae
  simp only [kY] at hnae
  subst hnae
  obtain ⟨d0, d1, d2, d3, d4⟩ := hnc n hn
  have g0 := qQ (o := 0) (u := x.n) hOG.root rfl
  rw [hvn] at g0
  have g1 := qQ (o := 1) hOG.root rfl
  have gl := (Array.getElem?_eq_some_iff.1 hOG.root).1
  have v1 := qQ (o := 1) hbxG rfl
  have v2 := qQ (o := 2) hbxG rfl
  have v4 := qQ (o := 4) hbxG rfl
  have v5 := qQ (o := 5) hbxG rfl
  have v6 := qQ (o := 6) hbxG rfl
  have vl := (Array.getElem?_eq_some_iff.1 hbxG).1
  have hn1 : (n : Int) < (ns.length : Int) := by omega
  clear hOG hCG hbxG hnc mz mzf mgl r3 rl1 b3 bl1 i0 HO2 Hbx1 hib hb1 hB1
  generalize qT ns n = y at *
  go_wp2_with fail
  go_region
  go_upto_region 6 with fail
  obtain ⟨wP, hwP⟩ : ∃ wP, (((wG.alloc (.cells #[.int .i64 y.kind, .int .i64 y.a, .int .i64 y.b, .int .i64 y.k, .int .i64 y.m] 46)).alloc (.cells #[.int .i64 ye, .int .i64 (s : Int)] 72)).alloc (.cells #[.int .i64 (n : Int), .bool false, .int .i64 ye, .int .i64 (s : Int), .int .i64 (-1)] 67)).drew = wP := ⟨_, rfl⟩
  have hAl := alloc3d wG (.cells #[.int .i64 y.kind, .int .i64 y.a, .int .i64 y.b, .int .i64 y.k, .int .i64 y.m] 46) (.cells #[.int .i64 ye, .int .i64 (s : Int)] 72) (.cells #[.int .i64 (n : Int), .bool false, .int .i64 ye, .int .i64 (s : Int), .int .i64 (-1)] 67)
  rw [hwP] at hAl
  obtain ⟨hx0, hx1, hx2, hBP⟩ := hAl
  rw [hwP]
  clear hwP
  have n0 := qQ (o := 0) hx0 rfl
  have n1 := qQ (o := 1) hx0 rfl
  have n2 := qQ (o := 2) hx0 rfl
  have n3 := qQ (o := 3) hx0 rfl
  have n4 := qQ (o := 4) hx0 rfl
  have nl := (Array.getElem?_eq_some_iff.1 hx0).1
  have hbxP := (Below.block hBP _ vl).trans (qK HbxG)
  have p1 := qQ (o := 1) hbxP rfl
  have p2 := qQ (o := 2) hbxP rfl
  have p4 := qQ (o := 4) hbxP rfl
  have p5 := qQ (o := 5) hbxP rfl
  have p6 := qQ (o := 6) hbxP rfl
  have pl := (Array.getElem?_eq_some_iff.1 hbxP).1
  have Hadd := qJ (fun (w' : World) => addend_any y w')
  simp only [Nd.val] at Hadd
  have ne1 : wP.heap.size ≠ w.heap.size := by omega
  have ne2 : wP.heap.size ≠ wG.heap.size := by omega
  go_cut [8] from 13 (fun v8 wx => ∃ mb, v8 = .pointer (some ⟨mb, 0, none⟩) ∧ wx.heap[mb]? = some (.cells #[.int .i64 ye, .int .i64 (s : Int), .int .i64 (wrap64 (yv + addB y))] 62 (0, 0)) ∧ Bw wP wx ∧ wP.heap.size ≤ mb)
  case first =>
    go_region_held3 (fun w' => w'.cell? ⟨w.heap.size, 4, none⟩ = some (.int .i64 ye) ∧ w'.cell? ⟨w.heap.size, 5, none⟩ = some (.int .i64 (s : Int)) ∧ w'.cell? ⟨w.heap.size, 6, none⟩ = some (.int .i64 yv) ∧ w'.cell? ⟨wG.heap.size, 0, none⟩ = some (.int .i64 y.kind) ∧ w'.cell? ⟨wG.heap.size, 1, none⟩ = some (.int .i64 y.a) ∧ w'.cell? ⟨wG.heap.size, 2, none⟩ = some (.int .i64 y.b) ∧ w'.cell? ⟨wG.heap.size, 3, none⟩ = some (.int .i64 y.k) ∧ w'.cell? ⟨wG.heap.size, 4, none⟩ = some (.int .i64 y.m)) (go_keep) ((go_at_call 102; refine ((qK Hadd) _).mono ?_; rintro e w9 ⟨rfl, hb9⟩; have hb8 := (show Bw wP _ from (by repeat first|exact br _|assumption|apply bd|apply bn|apply ba|refine bt ?_ (by assumption))).trans hb9; have hr := (Below.block hb8 w.heap.size pl).trans hbxP; have r4 := qQ (o := 4) hr rfl; have r5 := qQ (o := 5) hr rfl; have r6 := qQ (o := 6) hr rfl; have rl := (Array.getElem?_eq_some_iff.1 hr).1; have hs := (Below.block hb8 wG.heap.size nl).trans hx0; have s0 := qQ (o := 0) hs rfl; have s1 := qQ (o := 1) hs rfl; have s2 := qQ (o := 2) hs rfl; have s3 := qQ (o := 3) hs rfl; have s4 := qQ (o := 4) hs rfl; have sl := (Array.getElem?_eq_some_iff.1 hs).1; have ne3 : w9.heap.size ≠ w.heap.size := (by omega); have ne4 : w9.heap.size ≠ wG.heap.size := (by omega); (try (have hq := (Below.block hb9 wP.heap.size (by simp)).trans (show _ = some (.cells #[.int .i64 0, .int .i64 0, .int .i64 0] 62 (0, 0)) from qY _ _ (by simp)); have q0 := qQ (o := 0) hq rfl; have q1 := qQ (o := 1) hq rfl; have q2 := qQ (o := 2) hq rfl; have qf := fun o => qZ (o := o) hq; have ql := (Array.getElem?_eq_some_iff.1 hq).1))))
    all_goals (
      go_wp2_with fail
      go_meet
      first
        | exact ⟨w9.heap.size, rfl, by rw [← wrap64_left']; exact heap_alloc_new w9 _, hb8.trans (by repeat first|exact br _|assumption|apply bd|apply bn|apply ba|refine bt ?_ (by assumption)), hb8.size⟩
        | exact ⟨wP.heap.size, rfl, by rw [← wrap64_left']; exact (qU (qU (qU hq))).trans rfl, Bw.setCell (Bw.setCell (Bw.setCell hb8 (p := ⟨wP.heap.size, 0, none⟩) (Nat.le_refl _) _) (p := ⟨wP.heap.size, 1, none⟩) (Nat.le_refl _) _) (p := ⟨wP.heap.size, 2, none⟩) (Nat.le_refl _) _, Nat.le_refl _⟩)
  case rest =>
    obtain ⟨mb, rfl, hmb, hBx, hmp⟩ := hcut
    have tl := (Array.getElem?_eq_some_iff.1 hx1).1
    have ql := (Array.getElem?_eq_some_iff.1 hx2).1
    have hx0c := (Below.block hBx _ nl).trans hx0
    have hx1c := (Below.block hBx _ tl).trans hx1
    have hx2c := (Below.block hBx _ ql).trans hx2
    have hbxc := (Below.block hBx _ pl).trans hbxP
    clear n0 n1 n2 n3 n4 p1 p2 p4 p5 p6 d0 d1 d2 d3 d4 g0 g1 v1 v2 v4 v5 v6 ne1 ne2 Hadd
    have n0 := qQ (o := 0) hx0c rfl
    have n3 := qQ (o := 3) hx0c rfl
    have n4 := qQ (o := 4) hx0c rfl
    have nlc := (Array.getElem?_eq_some_iff.1 hx0c).1
    have t0 := qQ (o := 0) hx1c rfl
    have t1 := qQ (o := 1) hx1c rfl
    have tlc := (Array.getElem?_eq_some_iff.1 hx1c).1
    have p0 := qQ (o := 0) hbxc rfl
    have p1 := qQ (o := 1) hbxc rfl
    have p2 := qQ (o := 2) hbxc rfl
    have p3 := qQ (o := 3) hbxc rfl
    have p4 := qQ (o := 4) hbxc rfl
    have p5 := qQ (o := 5) hbxc rfl
    have p6 := qQ (o := 6) hbxc rfl
    have plc := (Array.getElem?_eq_some_iff.1 hbxc).1
    have m1 := qQ (o := 1) hmb rfl
    have m1f := qZ (o := 1) hmb
    have mlc := (Array.getElem?_eq_some_iff.1 hmb).1
    have hBc := hBP.trans hBx
    have hOc := (qK HOG).bw hBc
    have rl := (Array.getElem?_eq_some_iff.1 hOc.root).1
    have r1 := qQ (o := 1) hOc.root rfl
    have HOc := qJ hOc
    clear hOc
    have Hbxc := qJ hbxc
    have HALl := qJ (acTo_len st.evs a n ye s st.evs.length)
    have Hown0 := qJ (ownP_one (base := wG.heap.size) (p := ⟨n, false, ye, s, -1⟩) (by omega) hx2c)
    have Hhmb := qJ hmb
    have Hmet := qJ (fun (w' : World) (h : Bw wc w') => rmet_any ⟨yk, a, n, i, ye, s, yv⟩ w' ((qK HOc).bw h).read)
    have Hadd := qJ (fun (w' : World) (h : Bw wc w') => radded_any (a : Int) (n : Int) ye (s : Int) w' ((qK HOc).bw h).read)
    clear hx0c hx1c hx2c hbxc hmb hx0 hx1 hx2 hbxP
    have hzc := hBc.size
    go_upto_block 0 with fail
    go_cut [7, 9] from 13 (fun v7 v9 wx => (∃ pa pc, v7 = .slice pa Q1.length pc) ∧ OwnP wG wx v7 Q1 ∧ v9 = .bool U ∧ wx.heap[mb]? = some (.cells #[.int .i64 M.node, .int .i64 M.epoch, .int .i64 M.value] 62 (0, 0)) ∧ Bw wG wx)
    case first =>
      have Hm0 : Hid (y.kind ≠ 4 → wc.heap[mb]? = some (.cells #[.int .i64 M.node, .int .i64 M.epoch, .int .i64 M.value] 62 (0, 0))) := qJ (fun h4 => by
        rw [qK HM, show (y.kind == 4) = false by simpa using h4]
        exact qK Hhmb)
      have HQ0 : Hid (y.kind ≠ 6 → Q1 = [⟨n, false, ye, s, -1⟩]) := qJ (fun h => by rw [qK HQ, show (y.kind == 6) = false by simpa using h]; rfl)
      by_cases k2 : y.kind = 2
      · have b2 : (y.kind == 2) = true := by simpa using k2
        have hU : Hid (U = (yv % y.k == y.m)) := qJ (by rw [qK HU, b2]; rfl)
        have e1 := (qK Hm0) (by omega)
        have hQ := qJ ((qK HQ0) (by omega))
        go_wp2_with fail
        go_quiet ((go_at_call 90; refine Calls.quiet_of_same (rrest_any _ _ _ (hk2 k2).1 (by have := (hk2 k2).2; omega))))
        go_wp2_with fail
        go_meet
        exact ⟨⟨_, _, by rw [qK hQ]; rfl⟩, by rw [qK hQ]; exact OwnP.bw (qK Hown0) (by repeat first|exact br _|assumption|apply bd|apply bn|apply ba|refine bt ?_ (by assumption)), by rw [qK hU], e1, hBc.trans (by repeat first|exact br _|assumption|apply bd|apply bn|apply ba|refine bt ?_ (by assumption))⟩
      have b2 : (y.kind == 2) = false := by simpa using k2
      by_cases k4 : y.kind = 4
      · have b4 : (y.kind == 4) = true := by simpa using k4
        have hU : Hid (U = decide ((s : Int) + 1 < (R : Int))) := qJ (by rw [qK HU, b2, b4]; rfl)
        have hM : Hid (M = ⟨ye, (s : Int) + 1, wrap64 (yv + addB y)⟩) := qJ (by rw [qK HM, b4]; rfl)
        have hQ := qJ ((qK HQ0) (by omega))
        have hmbe := qU (k := 1) (v := .int .i64 ((s : Int) + 1)) (qK Hhmb)
        have f1 := qQ (o := 1) hmbe rfl
        have Hmbe := qJ hmbe
        have hmr : ¬ mb = rb := fun e9 => by rw [e9] at hmp; have h9 := (qK HOG).slt _ (qK HOG).sroot; have := hBP.size; omega
        clear hmbe
        go_wp2_with fail
        go_quiet (fail)
        go_wp2_with fail
        go_meet
        exact ⟨⟨_, _, by rw [qK hQ]; rfl⟩, by rw [qK hQ]; exact OwnP.bw (kK (qK Hown0) (fun b hb => Below.heap_setCell wc ⟨mb, 1, none⟩ _ b (fun e9 => by simp only [Value.ownBlock, Option.some.injEq] at hb; simp only at e9; omega))) (by repeat first|exact br _|assumption|apply bd|apply bn|apply ba|refine bt ?_ (by assumption)), by rw [qK hU], by rw [qK hM]; exact qK Hmbe, (Bw.setCell hBc (p := ⟨mb, 1, none⟩) (by simp only; have := hBP.size; omega) _).trans (by repeat first|exact br _|assumption|apply bd|apply bn|apply ba|refine bt ?_ (by assumption))⟩
      have b4 : (y.kind == 4) = false := by simpa using k4
      by_cases k5 : y.kind = 5
      · have b5 : (y.kind == 5) = true := by simpa using k5
        have hU : Hid (U = !meTo st.evs ⟨yk, a, n, i, ye, s, yv⟩ st.evs.length) := qJ (by rw [qK HU, b2, b4, b5]; rfl)
        have e1 := qJ ((qK Hm0) (by omega))
        have hQ := qJ ((qK HQ0) (by omega))
        go_wp2_with (go_at_call 103; refine ((qK Hmet) _ (by repeat first|exact br _|assumption|apply bd|apply bn|apply ba|refine bt ?_ (by assumption))).mono ?_; rintro e w9 ⟨rfl, hb9⟩)
        go_meet
        exact ⟨⟨_, _, by rw [qK hQ]; rfl⟩, by rw [qK hQ]; exact OwnP.bw (qK Hown0) hb9, by rw [qK hU], (Below.block hb9 _ mlc).trans (qK e1), hBc.trans hb9⟩
      have b5 : (y.kind == 5) = false := by simpa using k5
      by_cases k6 : y.kind = 6
      · have b6 : (y.kind == 6) = true := by simpa using k6
        have hU : Hid (U = false) := qJ (by rw [qK HU, b2, b4, b5, b6]; rfl)
        have e1 := qJ ((qK Hm0) (by omega))
        generalize hAL : jU st.evs a n ye s st.evs.length = AL at *
        clear hAL
        have hALl : AL.length ≤ 100000000 := by have h1 : st.evs.length ≤ 100000000 := (qK HOc).few.2.2.2; have := (qK HALl); omega
        go_wp2_with fail
        refine ((qK Hadd) _ (Bw.refl _)).mono ?_
        rintro e w9 ⟨v9, rfl, hov, hb9⟩
        obtain ⟨va, vc, hve⟩ : ∃ va vc, v9 = .slice va AL.length vc := ⟨_, _, qV (n := AL.length) (by simpa [Own] using hov)⟩
        subst hve
        have hbx9 := (Below.block hb9 _ plc).trans (qK Hbxc)
        have z2 := qQ (o := 2) hbx9 rfl
        have z4 := qQ (o := 4) hbx9 rfl
        have z5 := qQ (o := 5) hbx9 rfl
        have zl := (Array.getElem?_eq_some_iff.1 hbx9).1
        have hm9 := qJ ((Below.block hb9 _ mlc).trans (qK e1))
        have hml9 : mb < w9.heap.size := Nat.lt_of_lt_of_le mlc hb9.size
        have hB9 := hBc.trans hb9
        have hzc9 := hB9.size
        clear hbx9 hov
        by_cases hz : AL.length = 0
        · have hQ : Hid (Q1 = [⟨n, false, ye, s, -1⟩, ⟨n, true, ye, s, 1⟩]) := qJ (by rw [qK HQ, b6, hz]; rfl)
          have hz1 : ((AL.length : Int) == 0) = true := by rw [hz]; rfl
          go_wp2_with (at_builtin; refine appL _ rfl _ _ _ 67 rfl _ 5 40 Tryz.infoPoint Tryz.underlying63 rfl (by decide) wG.heap.size (.slice (some ⟨wG.heap.size + 1 + 1, 0, none⟩) 1 1) 1 (qR [⟨n, false, ye, s, -1⟩]) rfl (OwnP.bw (qK Hown0) (hb9.trans (by repeat first|exact br _|assumption|apply bd|apply bn|apply ba|refine bt ?_ (by assumption)))) _ _ (Pt.cells ⟨n, true, ye, s, 1⟩) rfl rfl (xV (qQ (qY _ _ (by simp)) rfl) (qQ (qY _ _ (by simp)) rfl) (qQ (qY _ _ (by simp)) rfl) (qQ (qY _ _ (by simp)) rfl) (qQ (qY _ _ (by simp)) rfl)) (pt_one _) (by omega) (by omega) (Nat.le_trans hzc9 (Bw.size (by repeat first|exact br _|assumption|apply bd|apply bn|apply ba|refine bt ?_ (by assumption)))) ?_; intro g6 cap6 w6 ho6 hg6 hl6)
          go_meet
          obtain ⟨wX, hwX, hbX⟩ : ∃ wX, wX = w9.alloc (.cells #[.int .i64 (n : Int), .bool true, .int .i64 ye, .int .i64 (s : Int), .int .i64 1] 67) ∧ Bw w9 wX := ⟨_, rfl, (by repeat first|exact br _|assumption|apply bd|apply bn|apply ba|refine bt ?_ (by assumption))⟩
          rw [← hwX] at hg6
          have h3 := (Below.block hbX _ hml9).trans (qK hm9)
          have h4 := OwnP.bw (qK Hown0) (hb9.trans hbX)
          exact ⟨⟨_, _, by rw [qK hQ]; rfl⟩, by rw [qK hQ]; exact ho6, by rw [qK hU], (xN (fun b hb => jZ h4 hb) hg6 _ (by decide) mb _ h3).trans h3, yK h4 hg6 (hB9.trans hbX) (Nat.le_refl _)⟩
        · have hQ : Hid (Q1 = [⟨n, false, ye, s, -1⟩]) := qJ (by rw [qK HQ, show (AL.length == 0) = false by simpa using hz, Bool.and_false]; rfl)
          have hz1 : ((AL.length : Int) == 0) = false := beq_eq_false_iff_ne.2 (by omega)
          go_wp2_with fail
          go_meet
          exact ⟨⟨_, _, by rw [qK hQ]; rfl⟩, by rw [qK hQ]; exact OwnP.bw (qK Hown0) hb9, by rw [qK hU], qK hm9, hB9⟩
      have b6 : (y.kind == 6) = false := by simpa using k6
      by_cases k7 : y.kind = 7
      · have b7 : (y.kind == 7) = true := by simpa using k7
        have hU : Hid (U = false) := qJ (by rw [qK HU, b2, b4, b5, b6, b7]; rfl)
        have e1 := qJ ((qK Hm0) (by omega))
        have hQ := qJ ((qK HQ0) (by omega))
        go_wp2_with fail
        go_meet
        exact ⟨⟨_, _, by rw [qK hQ]; rfl⟩, by rw [qK hQ]; exact qK Hown0, by rw [qK hU], qK e1, hBc⟩
      have b7 : (y.kind == 7) = false := by simpa using k7
      have hU : Hid (U = true) := qJ (by rw [qK HU, b2, b4, b5, b6, b7]; rfl)
      have e1 := qJ ((qK Hm0) (by omega))
      have hQ := qJ ((qK HQ0) (by omega))
      go_wp2_with fail
      go_meet
      exact ⟨⟨_, _, by rw [qK hQ]; rfl⟩, by rw [qK hQ]; exact qK Hown0, by rw [qK hU], qK e1, hBc⟩
    case rest =>
      clear n0 n3 n4 t0 t1 p0 p1 p2 p3 p4 p5 p6 m1 m1f r1 nlc tlc plc mlc rl hzc hBc Hmet Hadd Hown0 Hhmb Hbxc HOc hBx hBP HU HM HQ
      obtain ⟨⟨pa, pc, rfl⟩, hop, rfl, hmbx, hBx2⟩ := hcut
      have hbxd := (Below.block hBx2 _ vl).trans (qK HbxG)
      have hOd := (qK HOG).bw hBx2
      have hCd : Chg S w wc := (qK HCG).trans (Chg.bw (S := S) hBx2) (fun _ h => .inl h)
      have hzG : w.heap.size ≤ wG.heap.size := (qK HCG).size
      have hGS : ∀ b, wG.heap.size ≤ b → ¬ S b := fun b hb h => by have := (qK HOG).slt b h; omega
      have hQl := qK HQl
      cases U with
      | false =>
        have HWz : Hid (workS ns R W st ⟨yk, a, n, i, ye, s, yv⟩ z = { st with mails := jP st.mails z, log := st.log ++ [⟨a, Q1⟩] }) := qJ (by rw [qK HW]; simp)
        have hOz := hOd
        have hoz := hop
        have hbxz := hbxd
        have hCz := hCd
        have hSz : ∀ b, S b → S b ∨ w.heap.size ≤ b := fun _ h => .inl h
        clear hOd hop hbxd hCd hmbx HW
        obtain ⟨vs, hvl, hl1, hl2⟩ := hOz.log
        have r4 := qQ (o := 4) (u := x.l) hOz.root rfl
        have rlz := (Array.getElem?_eq_some_iff.1 hOz.root).1
        have z1 := qQ (o := 1) hbxz rfl
        have zlz := (Array.getElem?_eq_some_iff.1 hbxz).1
        have HOz := qJ hOz
        have Hl1 := qJ hl1
        have Hl2 := qJ hl2
        have Hoz := qJ hoz
        clear hOz hl1 hl2 hoz hbxz
        simp only at hvl
        go_wp2_with fail
        go_region_law (refine yT rfl _ _ _ 113 rfl _ 2 32 Tryz.infoChange Tryz.underlying79 rfl (by decide) 0 x.l st.log.length (jM st.log vs) rfl (qX (qK Hl1).1 fun g hg => Below.block (show Bw wc _ from (by repeat first|exact br _|assumption|apply bd|apply bn|apply ba|refine bt ?_ (by assumption))) g hg) _ _ [.int .i64 (a : Int), .slice pa Q1.length pc] rfl rfl (xD (qQ (qY _ _ (by simp)) rfl) (qQ (qY _ _ (by simp)) rfl)) (by simp [Value.oneCell']) (by omega) (by omega) (Nat.zero_le _) ?_; intro g' cap w5 ho5 hg5 hl5; have hr5 := qW (qX (qK Hl1).1 fun g hg => Below.block (show Bw wc _ from (by repeat first|exact br _|assumption|apply bd|apply bn|apply ba|refine bt ?_ (by assumption))) g hg) hg5 ((qK HOz).bw (show Bw wc _ from (by repeat first|exact br _|assumption|apply bd|apply bn|apply ba|refine bt ?_ (by assumption)))).root (.inl (by decide)); have q4 := qQ (o := 4) (u := x.l) hr5 rfl; have q4f := qZ (o := 4) hr5; have q4l := (Array.getElem?_eq_some_iff.1 hr5).1; clear hr5)
        all_goals (
          obtain ⟨wB, hwB, hBB⟩ : ∃ wB, wB = (wc.alloc (.cells #[.int .i64 (a : Int), .slice pa Q1.length pc] 113)).drew ∧ Bw wc wB := ⟨_, rfl, (by repeat first|exact br _|assumption|apply bd|apply bn|apply ba|refine bt ?_ (by assumption))⟩
          rw [← hwB] at hg5 hl5
          have hOB := (qK HOz).bw hBB
          have hl1B := (qK Hl1).frame (fun b _ hlt => Below.block hBB b hlt)
          have hl2B : ∀ i, i < st.log.length → ∃ u, vs[i]? = some u ∧ OwnsIn S wB 67 5 u (jF st.log i).pts.length (qR (jF st.log i).pts) := fun i hi => by
            obtain ⟨u, e, h⟩ := (qK Hl2) i hi
            exact ⟨u, e, h.frame (fun b _ hlt => Below.block hBB b hlt)⟩
          have hO6 := hOB.addLog (c := ⟨a, Q1⟩) hvl hl1B hl2B (OwnP.bw (qK Hoz) hBB) ho5 hg5 hll
          have hC6 := yX (k := 4) (v' := .slice (some ⟨g', 0, none⟩) (st.log.length + 1) cap) hl1B hg5 hOB.sroot rfl
          have hzB := hBB.size
          have hzw := hCz.size
          go_wp2_with fail
          go_end0
          refine ⟨rfl, ?_⟩
          rw [qK HWz]
          refine ⟨_, _, hO6, (hCz.trans (Chg.bw (S := S) hBB) (fun _ h => .inl h)).trans hC6 hSz, fun b hb => ?_⟩
          rcases hb with (hb | hb) | rfl
          · exact hSz b hb
          · exact .inr (by have h9 := (World.ownsRow.lt (qK Hoz) b hb).1; omega)
          · rcases hl5 with h | h
            · exact hSz _ (hl1B.2 _ h)
            · exact .inr (by omega))
      | true =>
        have HWz : Hid (workS ns R W st ⟨yk, a, n, i, ye, s, yv⟩ z = { st with mails := jP st.mails z ++ yC ns W a n M ns.length, log := st.log ++ [⟨a, Q1 ++ jR ns n M ns.length⟩] }) := qJ (by rw [qK HW]; simp)
        have z1 := qQ (o := 1) hbxd rfl
        have z2 := qQ (o := 2) hbxd rfl
        have zld := (Array.getElem?_eq_some_iff.1 hbxd).1
        have m0 := qQ (o := 0) hmbx rfl
        have m1 := qQ (o := 1) hmbx rfl
        have m2 := qQ (o := 2) hmbx rfl
        have mld := (Array.getElem?_eq_some_iff.1 hmbx).1
        have Hput := qJ (rput_any (a : Int) (n : Int) M wc hOd (by simp only [xB]; exact hlm) h6)
        have hpp := xY ns (n : Int) M ns.length
        have Hop := qJ hop
        have Hbxd := qJ hbxd
        generalize jR ns n M ns.length = Q2 at *
        generalize yC ns W a n M ns.length = M2 at *
        clear hOd hop hbxd hmbx HW
        go_wp2_with fail
        refine (qK Hput).mono ?_
        rintro en w3 ⟨v3, rfl, hou3, S3, x3, hO3, hC3, hS3⟩
        obtain ⟨qa, qc, hqe⟩ : ∃ qa qc, v3 = .slice qa Q2.length qc := ⟨_, _, qV hou3⟩
        subst hqe
        have hz3 := hC3.size
        have hpl2 : ∀ b, Value.ownBlock (.slice pa Q1.length pc) = some b → wG.heap.size ≤ b ∧ b < wc.heap.size := fun b hb => World.ownsRow.lt (qK Hop) b hb
        have hop3 := kK (qK Hop) fun b hb => hC3.block b (hpl2 b hb).2 (hGS b (hpl2 b hb).1)
        have hnp3 : ∀ b, Value.ownBlock (.slice pa Q1.length pc) = some b → ¬ S3 b := fun b hb h => by
          rcases hS3 b h with h | h
          · exact hGS b (hpl2 b hb).1 h
          · have := (hpl2 b hb).2; omega
        have Hop3 := qJ hop3
        have HO3 := qJ hO3
        have HC3 := qJ hC3
        have HS3 := qJ hS3
        have Hou3 := qJ hou3
        have hzGc := hBx2.size
        clear hop3 hO3 hC3 hS3 hou3 Hput z1 z2 m0 m1 m2
        go_upto_region 27 with (at_builtin; refine appG w3 rfl _ _ _ 67 rfl _ 5 40 Tryz.infoPoint Tryz.underlying63 rfl (by decide) wG.heap.size (.slice pa Q1.length pc) Q1.length (qR Q1) rfl (qK Hop3) _ Q2.length _ (qR Q2) rfl (zB Q2) (jC (qK Hou3)) (pts_one Q2) (by omega) (by omega) (by omega) ?_; intro v4 wz hown4 hgr4 hl4; obtain ⟨ya, yc, hye⟩ : ∃ ya yc, v4 = .slice ya (Q1.length + Q2.length) yc := ⟨_, _, qV hown4⟩; subst hye)
        have hOz := (qK HO3).frame hgr4.size (fun b hb hl => hgr4.block b hl (fun e9 => hnp3 b e9.symm hb))
        obtain ⟨QQ, hQQ⟩ : ∃ QQ, Q1 ++ Q2 = QQ := ⟨_, rfl⟩
        have hQQl : QQ.length = Q1.length + Q2.length := by rw [← hQQ]; simp
        have hoz : OwnP wG wz (.slice ya QQ.length yc) QQ := by
          show World.ownsRow _ _ _ _ _ QQ.length (qR QQ)
          rw [hQQl, ← hQQ, xS]; exact hown4
        have hbxz : wz.heap[w.heap.size]? = some (.cells #[.int .i64 yk, .int .i64 (a : Int), .int .i64 (n : Int), .int .i64 (i : Int), .int .i64 ye, .int .i64 (s : Int), .int .i64 yv] 110 (0, 0)) := by
          have h3 := ((qK HC3).block _ zld (fun h => by have := (qK HO).slt _ h; omega)).trans (qK Hbxd)
          exact (xN (fun b hb => jZ (qK Hop3) hb) hgr4 _ (by decide) _ _ h3).trans h3
        have k2 : Chg (fun b => Value.ownBlock (.slice pa Q1.length pc) = some b) w3 wz := ⟨hgr4.os, hgr4.tape, hgr4.output, hgr4.size, fun i hi hn => hgr4.block i hi (fun e => hn e.symm)⟩
        have hCz : Chg S w wz := (hCd.trans (qK HC3) (fun _ h => .inl h)).trans k2 (fun b h => .inr (by have := (hpl2 b h).1; omega))
        have hzd := hCd.size
        have hSz : ∀ b, S3 b → S b ∨ w.heap.size ≤ b := fun b h => ((qK HS3) b h).imp id (fun h => by omega)
        rw [hQQ] at HWz
        rw [← hQQl]
        clear hown4 hgr4 hl4 hCd k2 hQQ hQQl Hop Hbxd Hop3 HO3 HC3 HS3 Hou3
        obtain ⟨vs, hvl, hl1, hl2⟩ := hOz.log
        have r4 := qQ (o := 4) (u := x3.l) hOz.root rfl
        have rlz := (Array.getElem?_eq_some_iff.1 hOz.root).1
        have z1 := qQ (o := 1) hbxz rfl
        have zlz := (Array.getElem?_eq_some_iff.1 hbxz).1
        have HOz := qJ hOz
        have Hl1 := qJ hl1
        have Hl2 := qJ hl2
        have Hoz := qJ hoz
        clear hOz hl1 hl2 hoz hbxz
        simp only at hvl
        go_wp2_with fail
        go_region_law (refine yT rfl _ _ _ 113 rfl _ 2 32 Tryz.infoChange Tryz.underlying79 rfl (by decide) 0 x3.l st.log.length (jM st.log vs) rfl (qX (qK Hl1).1 fun g hg => Below.block (show Bw wz _ from (by repeat first|exact br _|assumption|apply bd|apply bn|apply ba|refine bt ?_ (by assumption))) g hg) _ _ [.int .i64 (a : Int), .slice ya QQ.length yc] rfl rfl (xD (qQ (qY _ _ (by simp)) rfl) (qQ (qY _ _ (by simp)) rfl)) (by simp [Value.oneCell']) (by omega) (by omega) (Nat.zero_le _) ?_; intro g' cap w5 ho5 hg5 hl5; have hr5 := qW (qX (qK Hl1).1 fun g hg => Below.block (show Bw wz _ from (by repeat first|exact br _|assumption|apply bd|apply bn|apply ba|refine bt ?_ (by assumption))) g hg) hg5 ((qK HOz).bw (show Bw wz _ from (by repeat first|exact br _|assumption|apply bd|apply bn|apply ba|refine bt ?_ (by assumption)))).root (.inl (by decide)); have q4 := qQ (o := 4) (u := x3.l) hr5 rfl; have q4f := qZ (o := 4) hr5; have q4l := (Array.getElem?_eq_some_iff.1 hr5).1; clear hr5)
        all_goals (
          obtain ⟨wB, hwB, hBB⟩ : ∃ wB, wB = (wz.alloc (.cells #[.int .i64 (a : Int), .slice ya QQ.length yc] 113)).drew ∧ Bw wz wB := ⟨_, rfl, (by repeat first|exact br _|assumption|apply bd|apply bn|apply ba|refine bt ?_ (by assumption))⟩
          rw [← hwB] at hg5 hl5
          have hOB := (qK HOz).bw hBB
          have hl1B := (qK Hl1).frame (fun b _ hlt => Below.block hBB b hlt)
          have hl2B : ∀ i, i < st.log.length → ∃ u, vs[i]? = some u ∧ OwnsIn S3 wB 67 5 u (jF st.log i).pts.length (qR (jF st.log i).pts) := fun i hi => by
            obtain ⟨u, e, h⟩ := (qK Hl2) i hi
            exact ⟨u, e, h.frame (fun b _ hlt => Below.block hBB b hlt)⟩
          have hO6 := hOB.addLog (c := ⟨a, QQ⟩) hvl hl1B hl2B (OwnP.bw (qK Hoz) hBB) ho5 hg5 hll
          have hC6 := yX (k := 4) (v' := .slice (some ⟨g', 0, none⟩) (st.log.length + 1) cap) hl1B hg5 hOB.sroot rfl
          have hzB := hBB.size
          have hzw := hCz.size
          go_wp2_with fail
          go_end0
          refine ⟨rfl, ?_⟩
          rw [qK HWz]
          refine ⟨_, _, hO6, (hCz.trans (Chg.bw (S := S) hBB) (fun _ h => .inl h)).trans hC6 hSz, fun b hb => ?_⟩
          rcases hb with (hb | hb) | rfl
          · exact hSz b hb
          · exact .inr (by have h9 := (World.ownsRow.lt (qK Hoz) b hb).1; omega)
          · rcases hl5 with h | h
            · exact hSz _ (hl1B.2 _ h)
            · exact .inr (by omega))
end Go.Proofs.YtfemleimkbjehaaGreat
