import Derived.Test.YtfemleimkbjehaaGreatJ37
import Derived.Test.YtfemleimkbjehaaGreatJ36
set_option maxRecDepth 1000000
set_option maxHeartbeats 40000000
set_option linter.unusedVariables false
set_option linter.unusedSimpArgs false
namespace Go.Proofs.YtfemleimkbjehaaGreat
open Go.RowKit
theorem lfrontier_any {K : Nat → Prop} {lb pb rb : Nat} {x : LX} {cnt : Int} {l : LL} (ok oa ob oc oh : Int) (A : List Tm) (E : Int) (w : World) (hL : LW w K lb pb rb x cnt l)
    (hp : ∀ w', Bw w w' → Calls Tryz.prog 38 #[.pointer (some ⟨pb, 0, none⟩), .int .i64 oa, .int .i64 ob] w' fun e w'' => ∃ v, e = .returned (.tuple #[v, .int .i64 E]) ∧ OwnT w' w'' v A ∧ Bw w' w'')
    (hr : ∀ w', Bw w w' → Calls Tryz.prog 39 #[.pointer (some ⟨rb, 0, none⟩), .int .i64 oa, .int .i64 ob] w' fun e w'' => ∃ v, e = .returned (.tuple #[v, .int .i64 E]) ∧ OwnT w' w'' v A ∧ Bw w' w'')
    (hA : A.length ≤ 100000000) (hlm : l.t.length + 4 ≤ 900000000) (hcn : 0 ≤ cnt ∧ cnt ≤ 1000000000000) :
    Calls Tryz.prog 20 #[.pointer (some ⟨lb, 0, none⟩), .agg #[.int .i64 ok, .int .i64 oa, .int .i64 ob, .int .i64 oc, .int .i64 oh]] w fun e w' => e = .returned (.bool true) ∧ ∃ x' m', LW w' (fun b => K b ∨ (w.heap.size ≤ b ∧ b < w'.heap.size)) lb pb rb x' (cnt + 1) { l with t := m' } ∧ m'.length = l.t.length + 4 ∧ Chg K w w' := by
  have HL := qJ hL
  have Hp := qJ hp
  have Hr := qJ hr
  have klt := hL.klt
  have c0 := qQ (o := 0) hL.root rfl
  have c1 := qQ (o := 1) hL.root rfl
  have cl := (Array.getElem?_eq_some_iff.1 hL.root).1
  clear hL hp hr
  go_enter Tryz.func20, Tryz.ntmps20
  go_wp2_with fail
  obtain ⟨w0, hw0⟩ : ∃ w0, w.alloc (.cells #[.int .i64 ok, .int .i64 oa, .int .i64 ob, .int .i64 oc, .int .i64 oh] 31) = w0 := ⟨_, rfl⟩
  have hB0 : Bw w w0 := by rw [← hw0]; exact (by repeat first|exact br _|assumption|apply bd|apply bn|apply ba|refine bt ?_ (by assumption))
  have ho0 : w0.heap[w.heap.size]? = some (.cells #[.int .i64 ok, .int .i64 oa, .int .i64 ob, .int .i64 oc, .int .i64 oh] 31 (0, 0)) := by rw [← hw0]; exact heap_alloc_new w _
  rw [hw0]
  clear hw0
  obtain ⟨pq, hpq⟩ : ∃ pq, w.heap.size = pq := ⟨_, rfl⟩
  rw [hpq] at ho0
  rw [hpq]
  have Hcs := qJ (fun (w' : World) (h : Bw w0 w') => (⟨((qS (hB0.trans h)).1 _ 0 cl).trans c0, ((qS (hB0.trans h)).1 _ 1 cl).trans c1, qQ (o := 1) ((Below.block h _ (Array.getElem?_eq_some_iff.1 ho0).1).trans ho0) rfl, qQ (o := 2) ((Below.block h _ (Array.getElem?_eq_some_iff.1 ho0).1).trans ho0) rfl⟩ : w'.cell? ⟨lb, 0, none⟩ = some (.pointer (some ⟨pb, 0, none⟩)) ∧ w'.cell? ⟨lb, 1, none⟩ = some (.pointer (some ⟨rb, 0, none⟩)) ∧ w'.cell? ⟨pq, 1, none⟩ = some (.int .i64 oa) ∧ w'.cell? ⟨pq, 2, none⟩ = some (.int .i64 ob)))
  obtain ⟨s0, s1, s2, s3⟩ := (qK Hcs) w0 (Bw.refl _)
  clear c0 c1
  go_region_held3 (fun w' => w'.cell? ⟨lb, 0, none⟩ = some (.pointer (some ⟨pb, 0, none⟩)) ∧ w'.cell? ⟨lb, 1, none⟩ = some (.pointer (some ⟨rb, 0, none⟩)) ∧ w'.cell? ⟨pq, 1, none⟩ = some (.int .i64 oa) ∧ w'.cell? ⟨pq, 2, none⟩ = some (.int .i64 ob)) (first | go_keep | exact (qK Hcs) _ (by repeat first|exact br _|assumption|apply bd|apply bn|apply ba|refine bt ?_ (by assumption))) ((go_at_call 38; refine ((qK Hp) _ (hB0.trans (by repeat first|exact br _|assumption|apply bd|apply bn|apply ba|refine bt ?_ (by assumption)))).mono ?_; rintro e1 w1 ⟨v, rfl, hov, hb1⟩; obtain ⟨va, vc, hve⟩ : ∃ va vc, v = .slice va A.length vc := ⟨_, _, qV hov⟩; subst hve))
  have hB1 : Bw w0 w1 := (by repeat first|exact br _|assumption|apply bd|apply bn|apply ba|refine bt ?_ (by assumption))
  obtain ⟨t0, t1, t2, t3⟩ := (qK Hcs) w1 hB1
  clear s0 s1 s2 s3
  go_wp2_with fail
  go_region_held3 (fun w' => w'.cell? ⟨lb, 0, none⟩ = some (.pointer (some ⟨pb, 0, none⟩)) ∧ w'.cell? ⟨lb, 1, none⟩ = some (.pointer (some ⟨rb, 0, none⟩)) ∧ w'.cell? ⟨pq, 1, none⟩ = some (.int .i64 oa) ∧ w'.cell? ⟨pq, 2, none⟩ = some (.int .i64 ob)) (first | go_keep | exact (qK Hcs) _ (hB1.trans (by repeat first|exact br _|assumption|apply bd|apply bn|apply ba|refine bt ?_ (by assumption)))) ((go_at_call 39; refine ((qK Hr) _ (hB0.trans (hB1.trans (by repeat first|exact br _|assumption|apply bd|apply bn|apply ba|refine bt ?_ (by assumption))))).mono ?_; rintro e2 w2 ⟨u, rfl, hou, hb2⟩; obtain ⟨ua, uc, hue⟩ : ∃ ua uc, u = .slice ua A.length uc := ⟨_, _, qV hou⟩; subst hue))
  have hB2 : Bw w1 w2 := (by repeat first|exact br _|assumption|apply bd|apply bn|apply ba|refine bt ?_ (by assumption))
  clear t0 t1 t2 t3
  go_wp2_with fail
  have hov2 := hov.bw hB2
  go_loopw [9, 10] (fun okv i wr => ∃ k : Nat, k ≤ A.length ∧ i = .int .i64 k ∧ okv = .bool true ∧ Bw w2 wr) (fun _ i _ => A.length - (intOf i).toNat)
  case atStart => exact ⟨0, Nat.zero_le _, rfl, rfl, Bw.refl _⟩
  case round =>
    obtain ⟨k, hk, rfl, rfl, hB3⟩ := hrel
    rename World => w3
    by_cases hlt : k < A.length
    · obtain ⟨g, eg, hgl, z0, z1⟩ := tm_at (hov2.bw hB3) hlt
      obtain ⟨g2, eg2, hgl2, y0, y1⟩ := tm_at (hou.bw hB3) hlt
      simp only [kY] at eg eg2
      subst eg eg2
      have hk1 : (k : Int) < (A.length : Int) := by omega
      generalize yU A k = y at *
      go_wp2_with fail
      go_quiet (fail)
      go_wp2_with fail
      go_roundw
      case rel => exact ⟨k + 1, by omega, by go_num, by simp, (by repeat first|exact br _|assumption|apply bd|apply bn|apply ba|refine bt ?_ (by assumption))⟩
      case measure => simp [intOf]; omega
    · have hkk : k = A.length := by omega
      subst hkk
      have hB03 : Bw w w3 := hB0.trans (hB1.trans (hB2.trans hB3))
      have hL3 := (qK HL).bw hB03
      have r2 := qQ (o := 2) hL3.root rfl
      have r2f := qZ (o := 2) hL3.root
      have r2l := (Array.getElem?_eq_some_iff.1 hL3.root).1
      have HL4 := qJ (hL3.setCnt (c := cnt + 1))
      have hov3 : OwnT w w3 (.slice va A.length vc) A := (hov2.bw hB3).weaken (hB0.trans (by repeat first|exact br _|assumption|apply bd|apply bn|apply ba|refine bt ?_ (by assumption)))
      have hov4 := vX hov3 hL3.root (qP w3 lb 2 (.int .i64 (cnt + 1))) (by decide)
      clear hL3 hou hov hov2
      go_wp2_with fail
      have hz03 := hB03.size
      obtain ⟨w5, hw5⟩ : ∃ w5, (w3.setCell ⟨lb, 2, none⟩ (.int .i64 (cnt + 1))).alloc (.cells #[.int .i64 (-77), .int .i64 (cnt + 1)] 72) = w5 := ⟨_, rfl⟩
      have hszs : (w3.setCell ⟨lb, 2, none⟩ (.int .i64 (cnt + 1))).heap.size = w3.heap.size := by simp
      have hb5 : Bw (w3.setCell ⟨lb, 2, none⟩ (.int .i64 (cnt + 1))) w5 := by rw [← hw5]; exact (by repeat first|exact br _|assumption|apply bd|apply bn|apply ba|refine bt ?_ (by assumption))
      have hx5 : w5.heap[w3.heap.size]? = some (.cells #[.int .i64 (-77), .int .i64 (cnt + 1)] 72 (0, 0)) := by rw [← hw5, ← hszs]; exact heap_alloc_new _ _
      have hL5 := (qK HL4).bw hb5
      have hov5 := qX hov4 fun g hg => Below.block hb5 g hg
      have hC5 : Chg K w w5 := ((Chg.bw (S := K) hB03).trans (qP w3 lb 2 (.int .i64 (cnt + 1))) (fun b h => .inl (h ▸ (qK HL).kroot))).trans (Chg.bw (S := K) hb5) (fun _ h => .inl h)
      have hgx : ∀ b, (Value.slice va A.length vc).ownBlock = some b → w.heap.size ≤ b ∧ b < w3.heap.size := fun b hb => World.ownsRow.lt hov3 b hb
      rw [hw5]
      obtain ⟨xb, hxb⟩ : ∃ xb, w3.heap.size = xb := ⟨_, rfl⟩
      rw [hxb] at hx5 hgx hz03
      rw [hxb]
      obtain ⟨nn, hnn⟩ : ∃ nn, cnt + 1 = nn := ⟨_, rfl⟩
      have hnb : 0 ≤ nn ∧ nn ≤ 1000000000001 := by omega
      rw [hnn] at hx5 hL5
      rw [hnn]
      have Hnn := qJ hnn
      clear hw5 hxb hnn hov4 hov3 HL4 hb5 hszs r2 r2f r2l hB3 hB2 hB1
      have hgl3 := tmsCells_len A
      go_loopw [12] (fun i wr => ∃ k : Nat, k ≤ A.length ∧ i = .int .i64 k ∧ LW wr K lb pb rb x nn l ∧ wr.ownsRow w.heap.size 72 2 (.slice va A.length vc) A.length (ovL xT nn 2 (jY A) k) ∧ wr.heap[xb]? = some (.cells #[.int .i64 (-77), .int .i64 nn] 72 (0, 0)) ∧ Chg K w wr) (fun i _ => A.length - (intOf i).toNat)
      case atStart => exact ⟨0, Nat.zero_le _, rfl, hL5, by rw [ovL_zero]; exact hov5, hx5, hC5⟩
      case round =>
        clear hL5 hov5 hx5 hC5
        obtain ⟨k, hk, rfl, hLr, hor, hxr, hCr⟩ := hrel
        rename World => wr
        have x0 := qQ (o := 0) hxr rfl
        have x1 := qQ (o := 1) hxr rfl
        have xl := (Array.getElem?_eq_some_iff.1 hxr).1
        by_cases hlt : k < A.length
        · obtain ⟨g, eg, hgl, hcc⟩ := qB hor (by omega)
          simp only [kY] at eg
          subst eg
          obtain ⟨hg1, hg2⟩ := hgx g rfl
          have hol : (ovL xT nn 2 (jY A) k).length = A.length * 2 := by
            unfold ovL; rw [List.length_append, List.length_drop, hgl3]; simp [jW, xT]; omega
          have ex : ∀ q, q < A.length * 2 → ∃ u, wr.cell? ⟨g, q, none⟩ = some u := fun q hq => ⟨_, hcc q _ (List.getElem?_eq_getElem (by omega))⟩
          obtain ⟨u0, z0⟩ := ex (k * 2) (by omega)
          obtain ⟨u1, z1⟩ := ex (k * 2 + 1) (by omega)
          obtain ⟨cur, hcur⟩ := jZ hor (b := g) rfl
          have zf := fun q => qZ (o := q) hcur
          have hk1 : (k : Int) < (A.length : Int) := by omega
          have hgx2 : ¬ xb = g := by omega
          have hnK : ∀ b, K b → ¬ b = g := fun b hb e => by have := klt b hb; omega
          have Hrest := qJ (⟨hLr, hor, hxr, hCr⟩ : LW wr K lb pb rb x nn l ∧ wr.ownsRow w.heap.size 72 2 (.slice (some ⟨g, 0, none⟩) A.length vc) A.length (ovL xT nn 2 (jY A) k) ∧ wr.heap[xb]? = some (.cells #[.int .i64 (-77), .int .i64 nn] 72 (0, 0)) ∧ Chg K w wr)
          clear hLr hor hxr hCr hcc hcur ex
          go_wp2_with fail
          go_roundw
          case rel =>
            obtain ⟨hLr, hor, hxr, hCr⟩ := qK Hrest
            have hc3 : Chg (fun b => b = g) wr ((wr.setCell ⟨g, k * 2, none⟩ (.int .i64 (-77))).setCell ⟨g, k * 2 + 1, none⟩ (.int .i64 nn)) := ((qP _ _ _ _).trans (qP _ _ _ _) (fun _ h => .inl h))
            refine ⟨k + 1, by omega, by go_num, hLr.other hc3 hnK, ?_, (hc3.block xb xl hgx2).trans hxr, hCr.trans hc3 (fun b h => .inr (h ▸ hg1))⟩
            rw [← ovT_set (by omega)]
            exact (kP (kP hor (by (try simp); omega)) (by (try simp); omega))
          case measure => simp [intOf]; omega
        · have hkk : k = A.length := by omega
          subst hkk
          rw [ovL_all (by omega)] at hor
          obtain ⟨ma, mc, hme⟩ : ∃ ma mc, x.t = .slice ma l.t.length mc := ⟨_, _, qV hLr.t.1⟩
          have hroot := hLr.root
          rw [hme] at hroot
          have r3 := qQ (o := 5) hroot rfl
          have r2 := qQ (o := 2) hroot rfl
          have rl := (Array.getElem?_eq_some_iff.1 hroot).1
          have Hfam := qJ (fun i (hi : i < l.t.length) => (.inr fun b hb => (hLr.kt i hi).1.2 b hb : (kV l.t i).len ≤ A.length ∨ ∀ b, (Value.slice (kV l.t i).a (kV l.t i).len (kV l.t i).cap).ownBlock = some b → K b))
          have HL0 := qJ (hLr.to0 w.heap.size)
          have Hor := qJ hor
          have Hxr := qJ hxr
          have Hme := qJ hme
          have hzr := hCr.size
          clear hLr hor hxr hroot hme x0 x1
          go_wp2_with fail
          go_region_law (refine yT rfl _ _ _ 70 rfl _ 2 32 Tryz.infoCom Tryz.underlying39 rfl (by decide) 0 (.slice ma l.t.length mc) l.t.length (kC l.t) rfl (qX ((qK Hme) ▸ (qK HL0).t.1) fun g hg => Below.block (show Bw wr _ from (by repeat first|exact br _|assumption|apply bd|apply bn|apply ba|refine bt ?_ (by assumption))) g hg) _ _ (Ent.cells ⟨va, A.length, vc, nn⟩) rfl rfl (xD (qQ (qY _ _ (by simp)) rfl) (qQ (qY _ _ (by simp)) rfl)) (one2 _) (by omega) (by omega) (Nat.zero_le _) ?_; intro g' cap w7 ho7 hg7 hl7; have Hadd := qJ ((qK HL0).addT (e := ⟨va, A.length, vc, nn⟩) ⟨qM (qK Hor) (Nat.zero_le _), fun b hb => .inr (hgx b hb).1⟩ (by simp only; omega) ho7 ((qK Hme).symm ▸ hg7) (by rcases hl7 with h | h; exact (qK HL0).t.2 _ (by rw [qK Hme]; exact h); exact .inr (by rw [h]; exact Nat.le_trans hzr (Bw.size (show Bw wr _ from (by repeat first|exact br _|assumption|apply bd|apply bn|apply ba|refine bt ?_ (by assumption)))))) (show Bw wr _ from (by repeat first|exact br _|assumption|apply bd|apply bn|apply ba|refine bt ?_ (by assumption)))); have q3 := qQ (o := 5) (qK Hadd).1 rfl; have q3f := qZ (o := 5) (qK Hadd).1; have q3l := (Array.getElem?_eq_some_iff.1 (qK Hadd).1).1)
          all_goals (
            obtain ⟨_, hL8⟩ := qK Hadd
            have hw7 := (qK Hadd).1
            have hbY : Bw wr (wr.alloc (.cells #[.slice va A.length vc, .int .i64 nn] 70)).drew := (by repeat first|exact br _|assumption|apply bd|apply bn|apply ba|refine bt ?_ (by assumption))
            have hm7 := qX ((qK Hme) ▸ (qK HL0).t.1) fun g hg => Below.block hbY g hg
            have hor8 := qN (k := 5) (u := .slice (some ⟨g', 0, none⟩) (l.t.length + 1) cap) hw7 (kQ hm7 hg7 (qX (qK Hor) fun g hg => Below.block hbY g hg) (by decide)) (by decide)
            have hxr8 := yZ (k := 5) (u := .slice (some ⟨g', 0, none⟩) (l.t.length + 1) cap) hw7 (qW hm7 hg7 ((Below.block hbY _ xl).trans (qK Hxr)) (.inl (by decide))) (by decide)
            have hC8 : Chg K w (w7.setCell ⟨lb, 5, none⟩ (.slice (some ⟨g', 0, none⟩) (l.t.length + 1) cap)) := by
              have k1 : Chg K w (wr.alloc (.cells #[.slice va A.length vc, .int .i64 nn] 70)).drew := hCr.trans (Chg.bw (S := K) hbY) (fun _ h => .inl h)
              have k2 : Chg (fun b => (Value.slice ma l.t.length mc).ownBlock = some b) (wr.alloc (.cells #[.slice va A.length vc, .int .i64 nn] 70)).drew w7 := ⟨hg7.os, hg7.tape, hg7.output, hg7.size, fun i hi hn => hg7.block i hi (fun e => hn e.symm)⟩
              exact (k1.trans k2 (fun b hb => (qK HL0).t.2 b (by rw [qK Hme]; exact hb))).trans (qP _ _ _ _) (fun b h => (qK HL0).kroot.imp (fun hk => h ▸ hk) (fun hk => h ▸ hk))
            obtain ⟨w8, hw8⟩ : ∃ w8, w7.setCell ⟨lb, 5, none⟩ (.slice (some ⟨g', 0, none⟩) (l.t.length + 1) cap) = w8 := ⟨_, rfl⟩
            rw [hw8] at hL8 hor8 hxr8 hC8
            simp only [hw8]
            clear hw8 hw7 hm7 Hadd q3 q3f q3l ho7 hg7 hl7 hbY
            have Hfam8 := qJ (fam_snoc (e := ⟨va, A.length, vc, nn⟩) (qK Hfam) (Nat.le_refl _))
            go_wp2_with fail
            go_loopw [13, 14] (fun gv i wr => ∃ (j : Nat) (ga : Option Addr) (gc : Nat) (x' : LX) (m' : List Ent), j ≤ 3 ∧ i = .int .i64 j ∧ gv = .slice ga (A.length + j) gc ∧ LW0 wr (fun b => K b ∨ w.heap.size ≤ b) lb pb rb x' nn { l with t := m' } ∧ m'.length = l.t.length + 1 + j ∧ wr.ownsRow w.heap.size 72 2 (.slice ga (A.length + j) gc) (A.length + j) (jW xT nn (A.length + j)) ∧ wr.heap[xb]? = some (.cells #[.int .i64 (-77), .int .i64 nn] 72 (0, 0)) ∧ Chg K w wr ∧ (∀ b, (Value.slice ga (A.length + j) gc).ownBlock = some b → b ≠ xb) ∧ ∀ i, i < m'.length → (kV m' i).len ≤ A.length + j ∨ ∀ b, (Value.slice (kV m' i).a (kV m' i).len (kV m' i).cap).ownBlock = some b → K b) (fun _ i _ => 3 - (intOf i).toNat)
            case atStart => exact ⟨0, va, vc, _, _, by omega, rfl, rfl, hL8, by simp, hor8, hxr8, hC8, fun b hb => by have := hgx b hb; omega, qK Hfam8⟩
            case round =>
              clear hL8 hor8 hxr8 hC8 Hfam8
              obtain ⟨j, ga, gc, x', m', hj, rfl, rfl, hLr, hml, hor, hxr, hCr, hnx, hfam⟩ := hrel
              rename World => wr
              have Hml := qJ hml
              have hmle : m'.length ≤ 900000000 := by omega
              clear hml
              have x0 := qQ (o := 0) hxr rfl
              have x1 := qQ (o := 1) hxr rfl
              have xl := (Array.getElem?_eq_some_iff.1 hxr).1
              have hzr := hCr.size
              obtain ⟨ma, mc, hme⟩ : ∃ ma mc, x'.t = .slice ma m'.length mc := ⟨_, _, qV hLr.t.1⟩
              by_cases hlt : j < 3
              · have hj1 : decide ((j : Int) < 3) = true := by simp; omega
                have hnK : ∀ b, (Value.slice ga (A.length + j) gc).ownBlock = some b → ¬ K b := fun b hb hk => by have h1 := klt b hk; have h2 := (World.ownsRow.lt hor b hb).1; omega
                have Hm := qJ (⟨hLr, hor, hxr, hCr, hfam⟩ : LW0 wr (fun b => K b ∨ w.heap.size ≤ b) lb pb rb x' nn { l with t := m' } ∧ wr.ownsRow w.heap.size 72 2 (.slice ga (A.length + j) gc) (A.length + j) (jW xT nn (A.length + j)) ∧ wr.heap[xb]? = some (.cells #[.int .i64 (-77), .int .i64 nn] 72 (0, 0)) ∧ Chg K w wr ∧ ∀ i, i < m'.length → (kV m' i).len ≤ A.length + j ∨ ∀ b, (Value.slice (kV m' i).a (kV m' i).len (kV m' i).cap).ownBlock = some b → K b)
                have Hme := qJ hme
                clear hLr hor hxr hCr hfam hme
                go_wp2_with (at_builtin; refine appK _ rfl _ _ _ 72 rfl _ 2 16 Tryz.infoTime Tryz.underlying68 rfl (by decide) w.heap.size (.slice ga (A.length + j) gc) (A.length + j) (jW xT nn (A.length + j)) rfl (qX (qK Hm).2.1 fun g hg => Below.block (show Bw wr _ from (by repeat first|exact br _|assumption|apply bd|apply bn|apply ba|refine bt ?_ (by assumption))) g hg) _ _ (Tm.cells ⟨-77, nn⟩) rfl rfl (tm_cells (qQ (qY _ _ (by simp)) rfl) (qQ (qY _ _ (by simp)) rfl)) (tm_one _) (by omega) (by omega) (Nat.le_trans hzr (Bw.size (show Bw wr _ from (by repeat first|exact br _|assumption|apply bd|apply bn|apply ba|refine bt ?_ (by assumption))))) ?_; intro g9 cap9 w9 ho9 hg9 hl9 hk9)
                obtain ⟨hLr, hor, hxr, hCr, hfam⟩ := qK Hm
                obtain ⟨wY, hwY, hbY⟩ : ∃ wY, wY = wr.alloc (.cells #[.int .i64 (-77), .int .i64 nn] 72) ∧ Bw wr wY := ⟨_, rfl, (by repeat first|exact br _|assumption|apply bd|apply bn|apply ba|refine bt ?_ (by assumption))⟩
                rw [← hwY] at hg9 hl9 hk9
                have horY := qX hor fun g hg => Below.block hbY g hg
                have hL9 := (hLr.bw hbY).appT (K0 := K) horY hg9 hk9 hfam hnK
                have hx9 : w9.heap[xb]? = some (.cells #[.int .i64 (-77), .int .i64 nn] 72 (0, 0)) := (hg9.block xb (Nat.lt_of_lt_of_le xl hbY.size) (fun e => hnx xb e.symm rfl)).trans ((Below.block hbY _ xl).trans hxr)
                have hzY := hbY.size
                have hC9 : Chg K w w9 := by
                  have k1 : Chg K w wY := hCr.trans (Chg.bw (S := K) hbY) (fun _ h => .inl h)
                  have k2 : Chg (fun b => (Value.slice ga (A.length + j) gc).ownBlock = some b) wY w9 := ⟨hg9.os, hg9.tape, hg9.output, hg9.size, fun i hi hn => hg9.block i hi (fun e => hn e.symm)⟩
                  exact k1.trans k2 (fun b hb => .inr (World.ownsRow.lt horY b hb).1)
                have ho9' : w9.ownsRow w.heap.size 72 2 (.slice (some ⟨g9, 0, none⟩) (A.length + j + 1) cap9) (A.length + j + 1) (jW xT nn (A.length + j + 1)) := by rw [jL]; exact ho9
                have hg9n : g9 ≠ xb ∧ w.heap.size ≤ g9 := by
                  refine ⟨?_, (World.ownsRow.lt ho9 g9 rfl).1⟩
                  rcases hl9 with h | h
                  · exact hnx _ h
                  · omega
                have hfam9 : ∀ i, i < m'.length → (kV m' i).len ≤ A.length + j + 1 ∨ ∀ b, (Value.slice (kV m' i).a (kV m' i).len (kV m' i).cap).ownBlock = some b → K b := fun i hi => (hfam i hi).imp (fun h => by omega) id
                have hroot := hL9.root
                rw [qK Hme] at hroot
                have r3 := qQ (o := 5) hroot rfl
                have r2 := qQ (o := 2) hroot rfl
                have rl := (Array.getElem?_eq_some_iff.1 hroot).1
                have HL9 := qJ hL9
                have Ho9 := qJ ho9'
                have Hx9 := qJ hx9
                have HC9 := qJ hC9
                have Hfam9 := qJ hfam9
                have hz9 := hC9.size
                clear hLr hor hxr hCr hfam horY hL9 hx9 hC9 ho9' ho9 hg9 hl9 hk9 hwY hbY hzY hroot Hm x0 x1 xl hzr hfam9
                go_region_law (refine yT rfl _ _ _ 70 rfl _ 2 32 Tryz.infoCom Tryz.underlying39 rfl (by decide) 0 (.slice ma m'.length mc) m'.length (kC m') rfl (qX ((qK Hme) ▸ (qK HL9).t.1) fun g hg => Below.block (show Bw w9 _ from (by repeat first|exact br _|assumption|apply bd|apply bn|apply ba|refine bt ?_ (by assumption))) g hg) _ _ (Ent.cells ⟨some ⟨g9, 0, none⟩, A.length + j + 1, cap9, nn⟩) rfl rfl (xD (qQ (qY _ _ (by simp)) rfl) (qQ (qY _ _ (by simp)) rfl)) (one2 _) (by omega) (by omega) (Nat.zero_le _) ?_; intro g' cap w7 ho7 hg7 hl7; have Hadd := qJ ((qK HL9).addT (e := ⟨some ⟨g9, 0, none⟩, A.length + j + 1, cap9, nn⟩) ⟨qM (qK Ho9) (Nat.zero_le _), fun b hb => .inr (by simp only [Value.ownBlock, Option.some.injEq] at hb; exact hb ▸ hg9n.2)⟩ (by simp only; omega) ho7 ((qK Hme).symm ▸ hg7) (by rcases hl7 with h | h; exact (qK HL9).t.2 _ (by rw [qK Hme]; exact h); exact .inr (by rw [h]; exact Nat.le_trans hz9 (Bw.size (show Bw w9 _ from (by repeat first|exact br _|assumption|apply bd|apply bn|apply ba|refine bt ?_ (by assumption)))))) (show Bw w9 _ from (by repeat first|exact br _|assumption|apply bd|apply bn|apply ba|refine bt ?_ (by assumption)))); have q3 := qQ (o := 5) (qK Hadd).1 rfl; have q3f := qZ (o := 5) (qK Hadd).1; have q3l := (Array.getElem?_eq_some_iff.1 (qK Hadd).1).1)
                all_goals (
                  have Hfin := qJ (⟨hg7, qK Hadd⟩ : _ ∧ _)
                  go_wp2_with fail
                  go_roundw
                  case rel =>
                    obtain ⟨hg7, hw7, hL8⟩ := qK Hfin
                    have hbY : Bw w9 (w9.alloc (.cells #[.slice (some ⟨g9, 0, none⟩) (A.length + j + 1) cap9, .int .i64 nn] 70)).drew := (by repeat first|exact br _|assumption|apply bd|apply bn|apply ba|refine bt ?_ (by assumption))
                    have hm7 := qX ((qK Hme) ▸ (qK HL9).t.1) fun g hg => Below.block hbY g hg
                    have hor8 := qN (k := 5) (u := .slice (some ⟨g', 0, none⟩) (m'.length + 1) cap) hw7 (kQ hm7 hg7 (qX (qK Ho9) fun g hg => Below.block hbY g hg) (by decide)) (by decide)
                    have xl := (Array.getElem?_eq_some_iff.1 (qK Hx9)).1
                    have hxr8 := yZ (k := 5) (u := .slice (some ⟨g', 0, none⟩) (m'.length + 1) cap) hw7 (qW hm7 hg7 ((Below.block hbY _ xl).trans (qK Hx9)) (.inl (by decide))) (by decide)
                    refine ⟨j + 1, some ⟨g9, 0, none⟩, cap9, _, _, by omega, by go_num, rfl, hL8, by have := qK Hml; simp; omega, hor8, hxr8, ?_, ?_, fam_snoc (e := ⟨some ⟨g9, 0, none⟩, A.length + j + 1, cap9, nn⟩) (qK Hfam9) (Nat.le_refl _)⟩
                    · have k1 : Chg K w (w9.alloc (.cells #[.slice (some ⟨g9, 0, none⟩) (A.length + j + 1) cap9, .int .i64 nn] 70)).drew := (qK HC9).trans (Chg.bw (S := K) hbY) (fun _ h => .inl h)
                      have k2 : Chg (fun b => (Value.slice ma m'.length mc).ownBlock = some b) (w9.alloc (.cells #[.slice (some ⟨g9, 0, none⟩) (A.length + j + 1) cap9, .int .i64 nn] 70)).drew w7 := ⟨hg7.os, hg7.tape, hg7.output, hg7.size, fun i hi hn => hg7.block i hi (fun e => hn e.symm)⟩
                      exact (k1.trans k2 (fun b hb => (qK HL9).t.2 b (by rw [qK Hme]; exact hb))).trans (qP _ _ _ _) (fun b h => (qK HL9).kroot.imp (fun hk => h ▸ hk) (fun hk => h ▸ hk))
                    · intro b hb
                      simp only [Value.ownBlock, Option.some.injEq] at hb
                      exact hb ▸ hg9n.1
                  case measure => simp [intOf]; omega)
              · have hj3 : j = 3 := by omega
                subst hj3
                have HLr := qJ hLr
                have HCr := qJ hCr
                clear hLr hor hxr hCr hfam x0 x1 hnx
                go_wp2_with (go_at_call 16; refine (num_any _ _).mono ?_; rintro en wn ⟨rfl, rfl⟩)
                go_ret
                have hml := qK Hml
                have hnn := qK Hnn
                subst hnn
                exact ⟨rfl, x', m', (qK HLr).done klt (qK HCr).size ⟨(qK HL).few.1, (qK HL).few.2.1, by simp only; omega, (qK HL).few.2.2.2⟩, by omega, qK HCr⟩)
theorem isWk_no {W : Nat} {w : Int} (h : xZ W w = false) : w < 0 ∨ (W : Int) ≤ w := by
  unfold xZ at h
  rw [Bool.and_eq_false_iff] at h
  rcases h with h | h
  · left; simpa using h
  · right; simpa using h
theorem rview_bad {rb : Nat} {x : RV} {ns : List Nd} {R W : Nat} {D : Nat → Nat → Int} {st : RSt} (wk : Int) (w : World) (hR : RRead w rb x ns R W D st) (hw : xZ W wk = false) :
    Calls Tryz.prog 37 #[.pointer (some ⟨rb, 0, none⟩), .int .i64 wk] w fun e w' => e = .returned (.tuple #[.slice none 0 0, .int .i64 3]) ∧ Bw w w' := by
  have c2 := hR.c2
  have hlt0 := hR.lt
  clear hR
  rcases isWk_no hw with h | h
  · have d1 : decide (wk < 0) = true := by simpa using h
    go_enter Tryz.func37, Tryz.ntmps37
    go_wp2_with fail
    go_ret2
    exact ⟨rfl, (by repeat first|exact br _|assumption|apply bd|apply bn|apply ba|refine bt ?_ (by assumption))⟩
  · have d1 : decide (wk < 0) = false := by simp; omega
    have d2 : decide ((W : Int) ≤ wk) = true := by simpa using h
    have d3 : ¬ wk < 0 := by omega
    go_enter Tryz.func37, Tryz.ntmps37
    go_wp2_with fail
    go_ret2
    exact ⟨rfl, (by repeat first|exact br _|assumption|apply bd|apply bn|apply ba|refine bt ?_ (by assumption))⟩
theorem rfrontier_bad {rb : Nat} {x : RV} {ns : List Nd} {R W : Nat} {D : Nat → Nat → Int} {st : RSt} (wk n : Int) (w : World) (hR : RRead w rb x ns R W D st) (hp : zJ ns.length W wk n = false) :
    Calls Tryz.prog 39 #[.pointer (some ⟨rb, 0, none⟩), .int .i64 wk, .int .i64 n] w fun e w' => e = .returned (.tuple #[.slice none 0 0, .int .i64 3]) ∧ Bw w w' := by
  have Hpl := qJ (rplace_any wk n w hR)
  rw [hp] at Hpl
  clear hR
  go_enter Tryz.func39, Tryz.ntmps39
  go_wp2_with (go_at_call 63; refine (qK Hpl).mono ?_; rintro e w' ⟨rfl, rfl⟩)
  go_ret2
  exact ⟨rfl, (by repeat first|exact br _|assumption|apply bd|apply bn|apply ba|refine bt ?_ (by assumption))⟩
theorem place_eq (L W : Nat) (w n : Int) : (xZ W w && kM L n) = zJ L W w n := by
  unfold xZ kM zJ
  rfl
theorem pwaitE_eq (L W : Nat) (w n : Int) : vC L W w n = waitE L W w n := by
  unfold vC waitE
  rw [place_eq]
theorem pwaitR_eq {ns : List Nd} {W : Nat} {st : RSt} {lim : PSt} (h : Sim ns W lim st) (w n : Int) : pwaitR ns.length W lim.wt w n = waitR st.mails ns.length W w n := by
  unfold pwaitR waitR
  rw [place_eq]
  by_cases h0 : zJ ns.length W w n = true
  · rw [if_pos h0, if_pos h0]
    obtain ⟨⟨a, b⟩, c, d⟩ := placeB_iff.1 h0
    rw [h.wt, Int.toNat_of_nonneg a, Int.toNat_of_nonneg c]
  · rw [if_neg h0, if_neg h0]
theorem Duo.looked {w w' : World} {K Sp Sr : Nat → Prop} {lb pb rb : Nat} {xp : PX} {xr : RX} {x x' : LX} {cnt : Int} {l l' : LL} {ns : List Nd} {R W : Nat} {st : RSt} {lim : PSt} {k : Nat} (h : Duo w K Sp Sr lb pb rb xp xr x cnt l ns R W st lim k) (hL : LW w' (fun b => K b ∨ (w.heap.size ≤ b ∧ b < w'.heap.size)) lb pb rb x' (cnt + 1) l') (hC : Chg K w w') (hl : l'.m.length ≤ 4 * (k + 1) ∧ l'.p.length ≤ 4 * (k + 1) ∧ l'.t.length ≤ 4 * (k + 1) ∧ l'.r.length ≤ 4 * (k + 1)) : Duo.After w w' (uni K Sp Sr) lb ns R W (k + 1) := by
  have sl := h.po.slt
  have rl := h.ro.slt
  have hct := h.ct
  refine ⟨_, Sp, Sr, pb, rb, xp, xr, x', cnt + 1, l', st, lim, ⟨hL, h.po.other hC fun b hb hk => h.kp b hk hb, h.ro.other hC fun b hb hk => h.kr b hk hb, h.inv.more, fun b hb hs => ?_, fun b hb hs => ?_, h.pr, h.lm, ⟨by omega, by omega⟩, hl⟩, hC.mono fun _ h => .inl h, fun b hb => ?_⟩
  · rcases hb with h1 | h1
    · exact h.kp b h1 hs
    · have := sl b hs; omega
  · rcases hb with h1 | h1
    · exact h.kr b h1 hs
    · have := rl b hs; omega
  · rcases hb with (h1 | h1) | h1 | h1
    · exact .inl (.inl h1)
    · exact .inr h1.1
    · exact .inl (.inr (.inl h1))
    · exact .inl (.inr (.inr h1))
theorem dwaiting {w : World} {K Sp Sr : Nat → Prop} {lb pb rb : Nat} {xp : PX} {xr : RX} {x : LX} {cnt : Int} {l : LL} {ns : List Nd} {R W : Nat} {st : RSt} {lim : PSt} {k : Nat} (ok oa ob oc oh : Int) (h : Duo w K Sp Sr lb pb rb xp xr x cnt l ns R W st lim k) (hk : k ≤ 200000) :
    Calls Tryz.prog 18 #[.pointer (some ⟨lb, 0, none⟩), .agg #[.int .i64 ok, .int .i64 oa, .int .i64 ob, .int .i64 oc, .int .i64 oh]] w fun e w' => e = .returned (.bool true) ∧ Duo.After w w' (uni K Sp Sr) lb ns R W (k + 1) := by
  have hi := h.inv
  have hml := hi.ml
  have hkm := h.km
  have hct := h.ct
  refine (lwaiting_any ok oa ob oc oh (waitR st.mails ns.length W oa ob) (waitE ns.length W oa ob) w h.lw (fun w' hb => ?_) (fun w' hb => ?_) ?_ (by omega) ⟨hct.1, by omega⟩).mono ?_
  · refine (pWaiting_any oa ob w' (h.po.bw hb)).mono ?_
    rintro e w'' ⟨v, rfl, ho, hb2⟩
    rw [pwaitE_eq]
    rw [pwaitR_eq h.lm] at ho
    exact ⟨v, rfl, ho, hb2⟩
  · exact rwaiting_any oa ob w' (h.ro.bw hb).read
  · unfold waitR
    split
    · have := waitL_len st.mails oa ob; omega
    · simp
  · rintro e w' ⟨rfl, x', m', hL, hm, hC⟩
    exact ⟨rfl, h.looked hL hC ⟨by simp only; omega, by simp only; omega, by simp only; omega, by simp only; omega⟩⟩
def viewA (ns : List Nd) (R W : Nat) (st : RSt) (w : Int) : List Pt := if xZ W w then vN (qD ns R W st.log st.told w.toNat st.log.length) R ns.length else []
theorem Inv.rel {ns : List Nd} {R W : Nat} {st : RSt} {k : Nat} (h : Inv ns R W st k) (h8 : ns.length ≤ 8) (hR : 1 ≤ R ∧ R ≤ 4) (i : Nat) : TabRel ns.length R (qD ns 4 W st.log st.told i st.log.length) (qD ns R W st.log st.told i st.log.length) := TabRel.log h8 hR (fun j hj => (h.cg j hj).1) _ (Nat.le_refl _)
theorem pviewR_eq {ns : List Nd} {R W : Nat} {st : RSt} {k : Nat} (h : Inv ns R W st k) (h8 : ns.length ≤ 8) (hR : 1 ≤ R ∧ R ≤ 4) {lim : PSt} (hs : Sim ns W lim st) (w : Int) : pviewR W lim.tb w = viewA ns R W st w := by
  unfold pviewR viewA
  split
  · rename_i hw
    obtain ⟨i, rfl, hi⟩ := isWk_iff.1 hw
    rw [Int.toNat_natCast, hs.tb i hi]
    exact view_eq (h.rel h8 hR _) h8 hR.2
  · rfl
theorem viewA_len {ns : List Nd} {R W : Nat} (st : RSt) (w : Int) (h8 : ns.length ≤ 8) (hR : R ≤ 4) : (viewA ns R W st w).length ≤ 1000 := by
  unfold viewA
  split
  · have h1 := vN_len (qD ns R W st.log st.told w.toNat st.log.length) R ns.length
    have h2 : ns.length * (2 * (6 * R)) ≤ 8 * (2 * (6 * 4)) := Nat.mul_le_mul h8 (by omega)
    omega
  · simp
theorem dview {w : World} {K Sp Sr : Nat → Prop} {lb pb rb : Nat} {xp : PX} {xr : RX} {x : LX} {cnt : Int} {l : LL} {ns : List Nd} {R W : Nat} {st : RSt} {lim : PSt} {k : Nat} (ok oa ob oc oh : Int) (h : Duo w K Sp Sr lb pb rb xp xr x cnt l ns R W st lim k) (hk : k ≤ 200000) :
    Calls Tryz.prog 19 #[.pointer (some ⟨lb, 0, none⟩), .agg #[.int .i64 ok, .int .i64 oa, .int .i64 ob, .int .i64 oc, .int .i64 oh]] w fun e w' => e = .returned (.bool true) ∧ Duo.After w w' (uni K Sp Sr) lb ns R W (k + 1) := by
  have hi := h.inv
  have hkm := h.km
  have hct := h.ct
  obtain ⟨s1, s2, s3, s4, s5, s6⟩ := h.po.small
  have hlen := viewA_len (W := W) st oa s1 s2
  refine (lview_any ok oa ob oc oh (viewA ns R W st oa) (pviewE W oa) w h.lw (fun w' hb => ?_) (fun w' hb => ?_) (by omega) (by omega) ⟨hct.1, by omega⟩).mono ?_
  · refine (pView_any oa w' (h.po.bw hb)).mono ?_
    rintro e w'' ⟨v, rfl, ho, hb2⟩
    rw [pviewR_eq hi s1 ⟨s5, s2⟩ h.lm] at ho
    exact ⟨v, rfl, ho, hb2⟩
  · cases hw : xZ W oa with
    | false =>
      refine (rview_bad oa w' (h.ro.bw hb).read hw).mono ?_
      rintro e w'' ⟨rfl, hb2⟩
      refine ⟨_, by unfold pviewE; rw [hw]; rfl, ?_, hb2⟩
      unfold viewA
      rw [hw]
      exact OwnP.nil _ _
    | true =>
      obtain ⟨i, rfl, hiW⟩ := isWk_iff.1 hw
      refine (rview_any i w' (h.ro.bw hb).read hiW s6 (fun j hj => ⟨(hi.cg j hj).1, by have := (hi.cg j hj).2; omega⟩)).mono ?_
      rintro e w'' ⟨v, rfl, ho, hb2⟩
      refine ⟨v, by unfold pviewE; rw [hw]; rfl, ?_, hb2⟩
      unfold viewA
      rw [hw, if_pos rfl, Int.toNat_natCast]
      exact ho
  · rintro e w' ⟨rfl, x', m', hL, hm, hC⟩
    exact ⟨rfl, h.looked hL hC ⟨by simp only; omega, by simp only; omega, by simp only; omega, by simp only; omega⟩⟩
theorem comTo_ok {ns : List Nd} {D : Nat → Nat → Int} {R L : Nat} {ps : List Pt} {y : Nat} (hok : ∀ p ∈ ps, PtOk L R p) : ∀ k, k ≤ ps.length → TmsOk R (jB ns D R ps y k) := by
  intro k
  induction k with
  | zero => intro _ i hi; simp [jB] at hi
  | succ k ih =>
    intro hk i hi
    by_cases hb : comB ns D R ps y k = true
    · rw [comTo_yes hb] at hi ⊢
      by_cases h1 : i < (jB ns D R ps y k).length
      · have : yU (jB ns D R ps y k ++ [⟨(jN ps k).epoch, jX ns D (jN ps k).node.toNat (jN ps k).out (jN ps k).round.toNat y⟩]) i = yU (jB ns D R ps y k) i := by simp [yU, List.getD, List.getElem?_append_left h1]
        rw [this]
        exact ih (by omega) i h1
      · have h2 : i = (jB ns D R ps y k).length := by simp at hi; omega
        subst h2
        have : yU (jB ns D R ps y k ++ [⟨(jN ps k).epoch, jX ns D (jN ps k).node.toNat (jN ps k).out (jN ps k).round.toNat y⟩]) (jB ns D R ps y k).length = ⟨(jN ps k).epoch, jX ns D (jN ps k).node.toNat (jN ps k).out (jN ps k).round.toNat y⟩ := by simp [yU, List.getD]
        rw [this]
        obtain ⟨n, e, s, q1, q2, q3, q4, q5, q6⟩ := hok _ (xH (show k < ps.length by omega))
        unfold comB at hb
        simp only [Bool.and_eq_true, decide_eq_true_eq] at hb
        exact ⟨e, (jX ns D (jN ps k).node.toNat (jN ps k).out (jN ps k).round.toNat y).toNat, q3, q4, by simp only; omega, by omega⟩
    · rw [comTo_no (by simpa using hb)] at hi ⊢
      exact ih (by omega) i hi
def frA (ns : List Nd) (R W : Nat) (st : RSt) (w n : Int) : List Tm := if zJ ns.length W w n then frE (jB ns (zU ns) R (vN (qD ns R W st.log st.told w.toNat st.log.length) R ns.length) n.toNat (vN (qD ns R W st.log st.told w.toNat st.log.length) R ns.length).length) R 6 else []
theorem pfrR_eq {ns : List Nd} {R W : Nat} {st : RSt} {k : Nat} (h : Inv ns R W st k) (h8 : ns.length ≤ 8) (hR : 1 ≤ R ∧ R ≤ 4) {lim : PSt} (hs : Sim ns W lim st) (w n : Int) : pfrR ns R W (zU ns) lim.tb w n = frA ns R W st w n := by
  unfold pfrR frA
  rw [place_eq]
  split
  · rename_i hw
    obtain ⟨⟨a1, a2⟩, _, _⟩ := placeB_iff.1 hw
    have hv : vN (lim.tb w.toNat) 4 8 = vN (qD ns R W st.log st.told w.toNat st.log.length) R ns.length := by
      rw [hs.tb w.toNat (by omega)]
      exact view_eq (h.rel h8 hR _) h8 hR.2
    rw [hv]
    exact frontier_eq (comTo_ok (L := ns.length) (vN_ok _ R ns.length) _ (Nat.le_refl _)) hR.2 6
  · rfl
theorem frA_len {ns : List Nd} {R W : Nat} (st : RSt) (w n : Int) (hR : R ≤ 4) : (frA ns R W st w n).length ≤ 1000 := by
  unfold frA
  split
  · have := frE_len (jB ns (zU ns) R (vN (qD ns R W st.log st.told w.toNat st.log.length) R ns.length) n.toNat (vN (qD ns R W st.log st.told w.toNat st.log.length) R ns.length).length) R 6
    omega
  · simp
theorem dfrontier {w : World} {K Sp Sr : Nat → Prop} {lb pb rb : Nat} {xp : PX} {xr : RX} {x : LX} {cnt : Int} {l : LL} {ns : List Nd} {R W : Nat} {st : RSt} {lim : PSt} {k : Nat} (ok oa ob oc oh : Int) (h : Duo w K Sp Sr lb pb rb xp xr x cnt l ns R W st lim k) (hk : k ≤ 200000) :
    Calls Tryz.prog 20 #[.pointer (some ⟨lb, 0, none⟩), .agg #[.int .i64 ok, .int .i64 oa, .int .i64 ob, .int .i64 oc, .int .i64 oh]] w fun e w' => e = .returned (.bool true) ∧ Duo.After w w' (uni K Sp Sr) lb ns R W (k + 1) := by
  have hi := h.inv
  have hkm := h.km
  have hct := h.ct
  obtain ⟨s1, s2, s3, s4, s5, s6⟩ := h.po.small
  have hlen := frA_len (W := W) (ns := ns) st oa ob s2
  have hD := fun a b => farD_bd ns s1 a b
  refine (lfrontier_any ok oa ob oc oh (frA ns R W st oa ob) (vC ns.length W oa ob) w h.lw (fun w' hb => ?_) (fun w' hb => ?_) (by omega) (by omega) ⟨hct.1, by omega⟩).mono ?_
  · refine (pFrontier_any oa ob w' (h.po.bw hb) (fun a b => (hD a b).2) (fun a b => (hD a b).1) (fun i hiW p hp => ?_)).mono ?_
    · have hv : vN (lim.tb i) 4 8 = vN (qD ns R W st.log st.told i st.log.length) R ns.length := by
        rw [h.lm.tb i hiW]
        exact view_eq (hi.rel s1 ⟨s5, s2⟩ i) s1 s2
      rw [hv] at hp
      exact vN_ok _ R ns.length p hp
    · rintro e w'' ⟨v, rfl, ho, hb2⟩
      rw [pfrR_eq hi s1 ⟨s5, s2⟩ h.lm] at ho
      exact ⟨v, rfl, ho, hb2⟩
  · cases hp : zJ ns.length W oa ob with
    | false =>
      refine (rfrontier_bad oa ob w' (h.ro.bw hb).read hp).mono ?_
      rintro e w'' ⟨rfl, hb2⟩
      refine ⟨_, by unfold vC; rw [place_eq, hp]; rfl, ?_, hb2⟩
      unfold frA
      rw [hp]
      exact OwnT.nil _ _
    | true =>
      obtain ⟨⟨a1, a2⟩, a3, a4⟩ := placeB_iff.1 hp
      obtain ⟨i, rfl⟩ := Int.eq_ofNat_of_zero_le a1
      obtain ⟨m, rfl⟩ := Int.eq_ofNat_of_zero_le a3
      refine (rfrontier_any i m w' (h.ro.bw hb).read (by omega) (by omega) (fun j hj => ⟨(hi.cg j hj).1, by have := (hi.cg j hj).2; omega⟩) (fun a b => (hD a b).2)).mono ?_
      rintro e w'' ⟨v, rfl, ho, hb2⟩
      refine ⟨v, by unfold vC; rw [place_eq, hp]; rfl, ?_, hb2⟩
      unfold frA
      rw [hp, if_pos rfl, Int.toNat_natCast, Int.toNat_natCast]
      exact ho
  · rintro e w' ⟨rfl, x', m', hL, hm, hC⟩
    exact ⟨rfl, h.looked hL hC ⟨by simp only; omega, by simp only; omega, by simp only; omega, by simp only; omega⟩⟩
end Go.Proofs.YtfemleimkbjehaaGreat
