import Derived.Test.YtfemleimkbjehaaGreatLW3
import Derived.Test.YtfemleimkbjehaaGreatJ8
import Derived.Test.YtfemleimkbjehaaGreatJ32
namespace Go.Proofs.YtfemleimkbjehaaGreat
set_option linter.unusedVariables false
set_option linter.unusedSimpArgs false
open Go.RowKit

set_option maxRecDepth 100000 in
set_option maxHeartbeats 4000000 in
theorem lgive_any {K Sp Sr : Nat → Prop} {lb pb rb : Nat} {x : LX} {cnt : Int} {l : LL} {Pp Pr : World → World → Prop} (_k oa ob oc oh : Int) (E : Int) (w : World) (hL : LW w K lb pb rb x cnt l) (hlp : ¬ Sp lb) (hsp : ∀ b, Sp b → b < w.heap.size)
    (hp : ∀ w', Bw w w' → Calls Tryz.prog 28 #[.pointer (some ⟨pb, 0, none⟩), .int .i64 oa, .int .i64 ob, .int .i64 oc] w' fun e w'' => e = .returned (.int .i64 E) ∧ Chg Sp w' w'' ∧ Pp w' w'')
    (hr : ∀ a1 b1 w', Bw w a1 → Chg Sp a1 b1 → Pp a1 b1 → Bw b1 w' → Calls Tryz.prog 29 #[.pointer (some ⟨rb, 0, none⟩), .int .i64 oa, .int .i64 ob, .int .i64 oc] w' fun e w'' => e = .returned (.int .i64 E) ∧ Chg Sr w' w'' ∧ Pr w' w'')
    (hsr : ∀ b, Sr b → b < w.heap.size) (hlr : ¬ Sr lb) :
    Calls Tryz.prog 17 #[.pointer (some ⟨lb, 0, none⟩), .agg #[.int .i64 1, .int .i64 oa, .int .i64 ob, .int .i64 oc, .int .i64 oh]] w fun e w' => e = .returned (.bool true) ∧ ∃ a1 b1 a2, Bw w a1 ∧ Chg Sp a1 b1 ∧ Pp a1 b1 ∧ Bw b1 a2 ∧ Chg Sr a2 w' ∧ Pr a2 w' := by
  have Hp := hide hp
  have Hr := hide hr
  have c0 := cell_of_block (o := 0) hL.root rfl
  have c1 := cell_of_block (o := 1) hL.root rfl
  have cl := (Array.getElem?_eq_some_iff.1 hL.root).1
  clear hL hp hr
  go_enter Tryz.func17, Tryz.ntmps17
  go_wp2_with fail
  obtain ⟨w0, hw0⟩ : ∃ w0, w.alloc (.cells #[.int .i64 1, .int .i64 oa, .int .i64 ob, .int .i64 oc, .int .i64 oh] 31) = w0 := ⟨_, rfl⟩
  have hB0 : Bw w w0 := by rw [← hw0]; exact (by repeat (first | exact Bw.refl _ | assumption | refine Bw.drew ?_ | refine Bw.drewN ?_ _ | refine Bw.alloc ?_ _ | refine Bw.trans ?_ (by assumption)))
  have ho0 : w0.heap[w.heap.size]? = some (.cells #[.int .i64 1, .int .i64 oa, .int .i64 ob, .int .i64 oc, .int .i64 oh] 31 (0, 0)) := by rw [← hw0]; exact heap_alloc_new w _
  rw [hw0]
  clear hw0
  have hnq : ¬ Sp w.heap.size := fun h => by have := hsp _ h; omega
  obtain ⟨pq, hpq⟩ : ∃ pq, w.heap.size = pq := ⟨_, rfl⟩
  rw [hpq] at ho0 hnq
  rw [hpq]
  have ol := (Array.getElem?_eq_some_iff.1 ho0).1
  have ll := Nat.lt_of_lt_of_le cl hB0.size
  have hl0 : ∀ k, w0.cell? ⟨lb, k, none⟩ = w.cell? ⟨lb, k, none⟩ := fun k => (bcell hB0).1 _ k cl
  have Hcs := hide (fun (w' : World) (ha : w'.heap[lb]? = w0.heap[lb]?) (hb : w'.heap[pq]? = w0.heap[pq]?) => (⟨(World.cell?_of_block (a := ⟨lb, 0, none⟩) ha).trans ((hl0 0).trans c0), (World.cell?_of_block (a := ⟨lb, 1, none⟩) ha).trans ((hl0 1).trans c1), cell_of_block (o := 1) (hb.trans ho0) rfl, cell_of_block (o := 2) (hb.trans ho0) rfl, cell_of_block (o := 3) (hb.trans ho0) rfl⟩ : w'.cell? ⟨lb, 0, none⟩ = some (.pointer (some ⟨pb, 0, none⟩)) ∧ w'.cell? ⟨lb, 1, none⟩ = some (.pointer (some ⟨rb, 0, none⟩)) ∧ w'.cell? ⟨pq, 1, none⟩ = some (.int .i64 oa) ∧ w'.cell? ⟨pq, 2, none⟩ = some (.int .i64 ob) ∧ w'.cell? ⟨pq, 3, none⟩ = some (.int .i64 oc)))
  obtain ⟨s0, s1, s2, s3, s4⟩ := (unhide Hcs) w0 rfl rfl
  clear c0 c1 hl0
  go_region_held3 (fun w' => w'.cell? ⟨lb, 0, none⟩ = some (.pointer (some ⟨pb, 0, none⟩)) ∧ w'.cell? ⟨lb, 1, none⟩ = some (.pointer (some ⟨rb, 0, none⟩)) ∧ w'.cell? ⟨pq, 1, none⟩ = some (.int .i64 oa) ∧ w'.cell? ⟨pq, 2, none⟩ = some (.int .i64 ob) ∧ w'.cell? ⟨pq, 3, none⟩ = some (.int .i64 oc)) (go_keep) ((go_at_call 28; refine ((unhide Hp) _ (hB0.trans (by repeat (first | exact Bw.refl _ | assumption | refine Bw.drew ?_ | refine Bw.drewN ?_ _ | refine Bw.alloc ?_ _ | refine Bw.trans ?_ (by assumption))))).mono ?_; rintro e1 w1 ⟨rfl, hc1, hp1⟩; have hl1 : w1.heap[lb]? = w0.heap[lb]? := (hc1.block lb (by simpa using ll) hlp).trans rfl; have hq1 : w1.heap[pq]? = w0.heap[pq]? := (hc1.block pq (by simpa using ol) hnq).trans rfl; obtain ⟨t0, t1, t2, t3, t4⟩ := (unhide Hcs) w1 hl1 hq1))
  have hB1 : Bw w w0.drew := hB0.trans (by repeat (first | exact Bw.refl _ | assumption | refine Bw.drew ?_ | refine Bw.drewN ?_ _ | refine Bw.alloc ?_ _ | refine Bw.trans ?_ (by assumption)))
  clear s0 s1 s2 s3 s4
  have hz1 := hc1.size
  have hnq2 : ¬ Sr pq := fun h => by have := hsr _ h; omega
  go_wp2_with fail
  go_region_held3 (fun w' => w'.cell? ⟨lb, 0, none⟩ = some (.pointer (some ⟨pb, 0, none⟩)) ∧ w'.cell? ⟨lb, 1, none⟩ = some (.pointer (some ⟨rb, 0, none⟩)) ∧ w'.cell? ⟨pq, 1, none⟩ = some (.int .i64 oa) ∧ w'.cell? ⟨pq, 2, none⟩ = some (.int .i64 ob) ∧ w'.cell? ⟨pq, 3, none⟩ = some (.int .i64 oc)) (go_keep) ((go_at_call 29; refine ((unhide Hr) _ _ _ hB1 hc1 hp1 (show Bw w1 w1.drew from (by repeat (first | exact Bw.refl _ | assumption | refine Bw.drew ?_ | refine Bw.drewN ?_ _ | refine Bw.alloc ?_ _ | refine Bw.trans ?_ (by assumption))))).mono ?_; rintro e2 w2 ⟨rfl, hc2, hr2⟩; have hl2 : w2.heap[lb]? = w0.heap[lb]? := (hc2.block lb (show lb < w1.heap.size from Nat.lt_of_lt_of_le ll hz1) hlr).trans hl1; have hq2 : w2.heap[pq]? = w0.heap[pq]? := (hc2.block pq (show pq < w1.heap.size from Nat.lt_of_lt_of_le ol hz1) hnq2).trans hq1; obtain ⟨v0, v1, v2, v3, v4⟩ := (unhide Hcs) w2 hl2 hq2))
  have Hfin := hide (⟨_, _, _, hB1, hc1, hp1, (show Bw w1 w1.drew from (by repeat (first | exact Bw.refl _ | assumption | refine Bw.drew ?_ | refine Bw.drewN ?_ _ | refine Bw.alloc ?_ _ | refine Bw.trans ?_ (by assumption)))), hc2, hr2⟩ : ∃ a1 b1 a2, Bw w a1 ∧ Chg Sp a1 b1 ∧ Pp a1 b1 ∧ Bw b1 a2 ∧ Chg Sr a2 w2 ∧ Pr a2 w2)
  clear hc1 hc2 hp1 hr2 t0 t1 t2 t3 t4 v0 v1 v2 v3 v4
  go_wp2_with (go_at_call 16; refine (num_any _ _).mono ?_; rintro en wn ⟨rfl, rfl⟩)
  go_ret
  exact ⟨rfl, unhide Hfin⟩

set_option maxRecDepth 100000 in
set_option maxHeartbeats 4000000 in
theorem ladvance_any {K Sp Sr : Nat → Prop} {lb pb rb : Nat} {x : LX} {cnt : Int} {l : LL} {Pp Pr : World → World → Prop} (_k oa ob oc oh : Int) (E : Int) (w : World) (hL : LW w K lb pb rb x cnt l) (hlp : ¬ Sp lb) (hsp : ∀ b, Sp b → b < w.heap.size)
    (hp : ∀ w', Bw w w' → Calls Tryz.prog 30 #[.pointer (some ⟨pb, 0, none⟩), .int .i64 oa, .int .i64 ob] w' fun e w'' => e = .returned (.int .i64 E) ∧ Chg Sp w' w'' ∧ Pp w' w'')
    (hr : ∀ a1 b1 w', Bw w a1 → Chg Sp a1 b1 → Pp a1 b1 → Bw b1 w' → Calls Tryz.prog 31 #[.pointer (some ⟨rb, 0, none⟩), .int .i64 oa, .int .i64 ob] w' fun e w'' => e = .returned (.int .i64 E) ∧ Chg Sr w' w'' ∧ Pr w' w'')
    (hsr : ∀ b, Sr b → b < w.heap.size) (hlr : ¬ Sr lb) :
    Calls Tryz.prog 17 #[.pointer (some ⟨lb, 0, none⟩), .agg #[.int .i64 2, .int .i64 oa, .int .i64 ob, .int .i64 oc, .int .i64 oh]] w fun e w' => e = .returned (.bool true) ∧ ∃ a1 b1 a2, Bw w a1 ∧ Chg Sp a1 b1 ∧ Pp a1 b1 ∧ Bw b1 a2 ∧ Chg Sr a2 w' ∧ Pr a2 w' := by
  have Hp := hide hp
  have Hr := hide hr
  have c0 := cell_of_block (o := 0) hL.root rfl
  have c1 := cell_of_block (o := 1) hL.root rfl
  have cl := (Array.getElem?_eq_some_iff.1 hL.root).1
  clear hL hp hr
  go_enter Tryz.func17, Tryz.ntmps17
  go_wp2_with fail
  obtain ⟨w0, hw0⟩ : ∃ w0, w.alloc (.cells #[.int .i64 2, .int .i64 oa, .int .i64 ob, .int .i64 oc, .int .i64 oh] 31) = w0 := ⟨_, rfl⟩
  have hB0 : Bw w w0 := by rw [← hw0]; exact (by repeat (first | exact Bw.refl _ | assumption | refine Bw.drew ?_ | refine Bw.drewN ?_ _ | refine Bw.alloc ?_ _ | refine Bw.trans ?_ (by assumption)))
  have ho0 : w0.heap[w.heap.size]? = some (.cells #[.int .i64 2, .int .i64 oa, .int .i64 ob, .int .i64 oc, .int .i64 oh] 31 (0, 0)) := by rw [← hw0]; exact heap_alloc_new w _
  rw [hw0]
  clear hw0
  have hnq : ¬ Sp w.heap.size := fun h => by have := hsp _ h; omega
  obtain ⟨pq, hpq⟩ : ∃ pq, w.heap.size = pq := ⟨_, rfl⟩
  rw [hpq] at ho0 hnq
  rw [hpq]
  have ol := (Array.getElem?_eq_some_iff.1 ho0).1
  have ll := Nat.lt_of_lt_of_le cl hB0.size
  have hl0 : ∀ k, w0.cell? ⟨lb, k, none⟩ = w.cell? ⟨lb, k, none⟩ := fun k => (bcell hB0).1 _ k cl
  have Hcs := hide (fun (w' : World) (ha : w'.heap[lb]? = w0.heap[lb]?) (hb : w'.heap[pq]? = w0.heap[pq]?) => (⟨(World.cell?_of_block (a := ⟨lb, 0, none⟩) ha).trans ((hl0 0).trans c0), (World.cell?_of_block (a := ⟨lb, 1, none⟩) ha).trans ((hl0 1).trans c1), cell_of_block (o := 1) (hb.trans ho0) rfl, cell_of_block (o := 2) (hb.trans ho0) rfl, cell_of_block (o := 3) (hb.trans ho0) rfl⟩ : w'.cell? ⟨lb, 0, none⟩ = some (.pointer (some ⟨pb, 0, none⟩)) ∧ w'.cell? ⟨lb, 1, none⟩ = some (.pointer (some ⟨rb, 0, none⟩)) ∧ w'.cell? ⟨pq, 1, none⟩ = some (.int .i64 oa) ∧ w'.cell? ⟨pq, 2, none⟩ = some (.int .i64 ob) ∧ w'.cell? ⟨pq, 3, none⟩ = some (.int .i64 oc)))
  obtain ⟨s0, s1, s2, s3, s4⟩ := (unhide Hcs) w0 rfl rfl
  clear c0 c1 hl0
  go_region_held3 (fun w' => w'.cell? ⟨lb, 0, none⟩ = some (.pointer (some ⟨pb, 0, none⟩)) ∧ w'.cell? ⟨lb, 1, none⟩ = some (.pointer (some ⟨rb, 0, none⟩)) ∧ w'.cell? ⟨pq, 1, none⟩ = some (.int .i64 oa) ∧ w'.cell? ⟨pq, 2, none⟩ = some (.int .i64 ob) ∧ w'.cell? ⟨pq, 3, none⟩ = some (.int .i64 oc)) (go_keep) ((go_at_call 30; refine ((unhide Hp) _ (hB0.trans (by repeat (first | exact Bw.refl _ | assumption | refine Bw.drew ?_ | refine Bw.drewN ?_ _ | refine Bw.alloc ?_ _ | refine Bw.trans ?_ (by assumption))))).mono ?_; rintro e1 w1 ⟨rfl, hc1, hp1⟩; have hl1 : w1.heap[lb]? = w0.heap[lb]? := (hc1.block lb (by simpa using ll) hlp).trans rfl; have hq1 : w1.heap[pq]? = w0.heap[pq]? := (hc1.block pq (by simpa using ol) hnq).trans rfl; obtain ⟨t0, t1, t2, t3, t4⟩ := (unhide Hcs) w1 hl1 hq1))
  have hB1 : Bw w w0.drew := hB0.trans (by repeat (first | exact Bw.refl _ | assumption | refine Bw.drew ?_ | refine Bw.drewN ?_ _ | refine Bw.alloc ?_ _ | refine Bw.trans ?_ (by assumption)))
  clear s0 s1 s2 s3 s4
  have hz1 := hc1.size
  have hnq2 : ¬ Sr pq := fun h => by have := hsr _ h; omega
  go_wp2_with fail
  go_region_held3 (fun w' => w'.cell? ⟨lb, 0, none⟩ = some (.pointer (some ⟨pb, 0, none⟩)) ∧ w'.cell? ⟨lb, 1, none⟩ = some (.pointer (some ⟨rb, 0, none⟩)) ∧ w'.cell? ⟨pq, 1, none⟩ = some (.int .i64 oa) ∧ w'.cell? ⟨pq, 2, none⟩ = some (.int .i64 ob) ∧ w'.cell? ⟨pq, 3, none⟩ = some (.int .i64 oc)) (go_keep) ((go_at_call 31; refine ((unhide Hr) _ _ _ hB1 hc1 hp1 (show Bw w1 w1.drew from (by repeat (first | exact Bw.refl _ | assumption | refine Bw.drew ?_ | refine Bw.drewN ?_ _ | refine Bw.alloc ?_ _ | refine Bw.trans ?_ (by assumption))))).mono ?_; rintro e2 w2 ⟨rfl, hc2, hr2⟩; have hl2 : w2.heap[lb]? = w0.heap[lb]? := (hc2.block lb (show lb < w1.heap.size from Nat.lt_of_lt_of_le ll hz1) hlr).trans hl1; have hq2 : w2.heap[pq]? = w0.heap[pq]? := (hc2.block pq (show pq < w1.heap.size from Nat.lt_of_lt_of_le ol hz1) hnq2).trans hq1; obtain ⟨v0, v1, v2, v3, v4⟩ := (unhide Hcs) w2 hl2 hq2))
  have Hfin := hide (⟨_, _, _, hB1, hc1, hp1, (show Bw w1 w1.drew from (by repeat (first | exact Bw.refl _ | assumption | refine Bw.drew ?_ | refine Bw.drewN ?_ _ | refine Bw.alloc ?_ _ | refine Bw.trans ?_ (by assumption)))), hc2, hr2⟩ : ∃ a1 b1 a2, Bw w a1 ∧ Chg Sp a1 b1 ∧ Pp a1 b1 ∧ Bw b1 a2 ∧ Chg Sr a2 w2 ∧ Pr a2 w2)
  clear hc1 hc2 hp1 hr2 t0 t1 t2 t3 t4 v0 v1 v2 v3 v4
  go_wp2_with (go_at_call 16; refine (num_any _ _).mono ?_; rintro en wn ⟨rfl, rfl⟩)
  go_ret
  exact ⟨rfl, unhide Hfin⟩

set_option maxRecDepth 100000 in
set_option maxHeartbeats 4000000 in
theorem lclose_any {K Sp Sr : Nat → Prop} {lb pb rb : Nat} {x : LX} {cnt : Int} {l : LL} {Pp Pr : World → World → Prop} (_k oa ob oc oh : Int) (E : Int) (w : World) (hL : LW w K lb pb rb x cnt l) (hlp : ¬ Sp lb) (hsp : ∀ b, Sp b → b < w.heap.size)
    (hp : ∀ w', Bw w w' → Calls Tryz.prog 32 #[.pointer (some ⟨pb, 0, none⟩), .int .i64 oa, .int .i64 ob] w' fun e w'' => e = .returned (.int .i64 E) ∧ Chg Sp w' w'' ∧ Pp w' w'')
    (hr : ∀ a1 b1 w', Bw w a1 → Chg Sp a1 b1 → Pp a1 b1 → Bw b1 w' → Calls Tryz.prog 33 #[.pointer (some ⟨rb, 0, none⟩), .int .i64 oa, .int .i64 ob] w' fun e w'' => e = .returned (.int .i64 E) ∧ Chg Sr w' w'' ∧ Pr w' w'')
    (hsr : ∀ b, Sr b → b < w.heap.size) (hlr : ¬ Sr lb) :
    Calls Tryz.prog 17 #[.pointer (some ⟨lb, 0, none⟩), .agg #[.int .i64 3, .int .i64 oa, .int .i64 ob, .int .i64 oc, .int .i64 oh]] w fun e w' => e = .returned (.bool true) ∧ ∃ a1 b1 a2, Bw w a1 ∧ Chg Sp a1 b1 ∧ Pp a1 b1 ∧ Bw b1 a2 ∧ Chg Sr a2 w' ∧ Pr a2 w' := by
  have Hp := hide hp
  have Hr := hide hr
  have c0 := cell_of_block (o := 0) hL.root rfl
  have c1 := cell_of_block (o := 1) hL.root rfl
  have cl := (Array.getElem?_eq_some_iff.1 hL.root).1
  clear hL hp hr
  go_enter Tryz.func17, Tryz.ntmps17
  go_wp2_with fail
  obtain ⟨w0, hw0⟩ : ∃ w0, w.alloc (.cells #[.int .i64 3, .int .i64 oa, .int .i64 ob, .int .i64 oc, .int .i64 oh] 31) = w0 := ⟨_, rfl⟩
  have hB0 : Bw w w0 := by rw [← hw0]; exact (by repeat (first | exact Bw.refl _ | assumption | refine Bw.drew ?_ | refine Bw.drewN ?_ _ | refine Bw.alloc ?_ _ | refine Bw.trans ?_ (by assumption)))
  have ho0 : w0.heap[w.heap.size]? = some (.cells #[.int .i64 3, .int .i64 oa, .int .i64 ob, .int .i64 oc, .int .i64 oh] 31 (0, 0)) := by rw [← hw0]; exact heap_alloc_new w _
  rw [hw0]
  clear hw0
  have hnq : ¬ Sp w.heap.size := fun h => by have := hsp _ h; omega
  obtain ⟨pq, hpq⟩ : ∃ pq, w.heap.size = pq := ⟨_, rfl⟩
  rw [hpq] at ho0 hnq
  rw [hpq]
  have ol := (Array.getElem?_eq_some_iff.1 ho0).1
  have ll := Nat.lt_of_lt_of_le cl hB0.size
  have hl0 : ∀ k, w0.cell? ⟨lb, k, none⟩ = w.cell? ⟨lb, k, none⟩ := fun k => (bcell hB0).1 _ k cl
  have Hcs := hide (fun (w' : World) (ha : w'.heap[lb]? = w0.heap[lb]?) (hb : w'.heap[pq]? = w0.heap[pq]?) => (⟨(World.cell?_of_block (a := ⟨lb, 0, none⟩) ha).trans ((hl0 0).trans c0), (World.cell?_of_block (a := ⟨lb, 1, none⟩) ha).trans ((hl0 1).trans c1), cell_of_block (o := 1) (hb.trans ho0) rfl, cell_of_block (o := 2) (hb.trans ho0) rfl, cell_of_block (o := 3) (hb.trans ho0) rfl⟩ : w'.cell? ⟨lb, 0, none⟩ = some (.pointer (some ⟨pb, 0, none⟩)) ∧ w'.cell? ⟨lb, 1, none⟩ = some (.pointer (some ⟨rb, 0, none⟩)) ∧ w'.cell? ⟨pq, 1, none⟩ = some (.int .i64 oa) ∧ w'.cell? ⟨pq, 2, none⟩ = some (.int .i64 ob) ∧ w'.cell? ⟨pq, 3, none⟩ = some (.int .i64 oc)))
  obtain ⟨s0, s1, s2, s3, s4⟩ := (unhide Hcs) w0 rfl rfl
  clear c0 c1 hl0
  go_region_held3 (fun w' => w'.cell? ⟨lb, 0, none⟩ = some (.pointer (some ⟨pb, 0, none⟩)) ∧ w'.cell? ⟨lb, 1, none⟩ = some (.pointer (some ⟨rb, 0, none⟩)) ∧ w'.cell? ⟨pq, 1, none⟩ = some (.int .i64 oa) ∧ w'.cell? ⟨pq, 2, none⟩ = some (.int .i64 ob) ∧ w'.cell? ⟨pq, 3, none⟩ = some (.int .i64 oc)) (go_keep) ((go_at_call 32; refine ((unhide Hp) _ (hB0.trans (by repeat (first | exact Bw.refl _ | assumption | refine Bw.drew ?_ | refine Bw.drewN ?_ _ | refine Bw.alloc ?_ _ | refine Bw.trans ?_ (by assumption))))).mono ?_; rintro e1 w1 ⟨rfl, hc1, hp1⟩; have hl1 : w1.heap[lb]? = w0.heap[lb]? := (hc1.block lb (by simpa using ll) hlp).trans rfl; have hq1 : w1.heap[pq]? = w0.heap[pq]? := (hc1.block pq (by simpa using ol) hnq).trans rfl; obtain ⟨t0, t1, t2, t3, t4⟩ := (unhide Hcs) w1 hl1 hq1))
  have hB1 : Bw w w0.drew := hB0.trans (by repeat (first | exact Bw.refl _ | assumption | refine Bw.drew ?_ | refine Bw.drewN ?_ _ | refine Bw.alloc ?_ _ | refine Bw.trans ?_ (by assumption)))
  clear s0 s1 s2 s3 s4
  have hz1 := hc1.size
  have hnq2 : ¬ Sr pq := fun h => by have := hsr _ h; omega
  go_wp2_with fail
  go_region_held3 (fun w' => w'.cell? ⟨lb, 0, none⟩ = some (.pointer (some ⟨pb, 0, none⟩)) ∧ w'.cell? ⟨lb, 1, none⟩ = some (.pointer (some ⟨rb, 0, none⟩)) ∧ w'.cell? ⟨pq, 1, none⟩ = some (.int .i64 oa) ∧ w'.cell? ⟨pq, 2, none⟩ = some (.int .i64 ob) ∧ w'.cell? ⟨pq, 3, none⟩ = some (.int .i64 oc)) (go_keep) ((go_at_call 33; refine ((unhide Hr) _ _ _ hB1 hc1 hp1 (show Bw w1 w1.drew from (by repeat (first | exact Bw.refl _ | assumption | refine Bw.drew ?_ | refine Bw.drewN ?_ _ | refine Bw.alloc ?_ _ | refine Bw.trans ?_ (by assumption))))).mono ?_; rintro e2 w2 ⟨rfl, hc2, hr2⟩; have hl2 : w2.heap[lb]? = w0.heap[lb]? := (hc2.block lb (show lb < w1.heap.size from Nat.lt_of_lt_of_le ll hz1) hlr).trans hl1; have hq2 : w2.heap[pq]? = w0.heap[pq]? := (hc2.block pq (show pq < w1.heap.size from Nat.lt_of_lt_of_le ol hz1) hnq2).trans hq1; obtain ⟨v0, v1, v2, v3, v4⟩ := (unhide Hcs) w2 hl2 hq2))
  have Hfin := hide (⟨_, _, _, hB1, hc1, hp1, (show Bw w1 w1.drew from (by repeat (first | exact Bw.refl _ | assumption | refine Bw.drew ?_ | refine Bw.drewN ?_ _ | refine Bw.alloc ?_ _ | refine Bw.trans ?_ (by assumption)))), hc2, hr2⟩ : ∃ a1 b1 a2, Bw w a1 ∧ Chg Sp a1 b1 ∧ Pp a1 b1 ∧ Bw b1 a2 ∧ Chg Sr a2 w2 ∧ Pr a2 w2)
  clear hc1 hc2 hp1 hr2 t0 t1 t2 t3 t4 v0 v1 v2 v3 v4
  go_wp2_with (go_at_call 16; refine (num_any _ _).mono ?_; rintro en wn ⟨rfl, rfl⟩)
  go_ret
  exact ⟨rfl, unhide Hfin⟩

end Go.Proofs.YtfemleimkbjehaaGreat
namespace Go.Proofs.YtfemleimkbjehaaGreat
set_option linter.unusedVariables false
set_option linter.unusedSimpArgs false
open Go.RowKit

/-- What the program holds where the reference holds st. -/
def pstOf (ns : List Nd) (W : Nat) (st : RSt) (lim : Nat) : PSt :=
  ⟨fun i n => (doneTo st.opened i n 2 st.opened.length : Nat), fun i n => decide (0 < doneTo st.opened i n 3 st.opened.length), fun i n => waitL st.mails i n, fun i => tabLog ns 4 W st.log st.told i st.log.length, (giveTo st.opened st.opened.length : Nat), lim⟩
theorem gvn_app {op : List Gv} {g : Gv} {i : Nat} (hi : i < op.length) : gvn (op ++ [g]) i = gvn op i := by simp [gvn, List.getD, List.getElem?_append_left hi]
theorem gvn_last (op : List Gv) (g : Gv) : gvn (op ++ [g]) op.length = g := by simp [gvn, List.getD]
theorem doneTo_app (op : List Gv) (g : Gv) (w n kd : Int) : ∀ k, k ≤ op.length → doneTo (op ++ [g]) w n kd k = doneTo op w n kd k := by
  intro k
  induction k with
  | zero => intro _; rfl
  | succ k ih =>
    intro hk
    rw [doneTo, doneTo, ih (by omega)]
    unfold doneB
    rw [gvn_app (by omega)]
theorem doneTo_snoc (op : List Gv) (g : Gv) (w n kd : Int) : doneTo (op ++ [g]) w n kd (op ++ [g]).length = doneTo op w n kd op.length + (if (g.epoch == w) && (g.node == n) && (g.value == kd) then 1 else 0) := by
  rw [List.length_append, List.length_singleton, doneTo, doneTo_app op g w n kd _ (Nat.le_refl _)]
  unfold doneB
  rw [gvn_last]
  split <;> rfl
theorem giveTo_app (op : List Gv) (g : Gv) : ∀ k, k ≤ op.length → giveTo (op ++ [g]) k = giveTo op k := by
  intro k
  induction k with
  | zero => intro _; rfl
  | succ k ih =>
    intro hk
    rw [giveTo, giveTo, ih (by omega), gvn_app (by omega)]
theorem giveTo_snoc (op : List Gv) (g : Gv) : giveTo (op ++ [g]) (op ++ [g]).length = giveTo op op.length + (if g.value == 1 then 1 else 0) := by
  rw [List.length_append, List.length_singleton, giveTo, giveTo_app op g _ (Nat.le_refl _), gvn_last]
  split <;> rfl
theorem psrcE_eq (ns : List Nd) (W : Nat) (st : RSt) (lim : Nat) (w n : Int) : psrcE ns W (pstOf ns W st lim).cl w n = sourceE ns W st.opened w n := by
  unfold psrcE sourceE
  by_cases h1 : isWk W w = true
  · obtain ⟨i, rfl, hi⟩ := isWk_iff.1 h1
    by_cases h2 : isNodeB ns.length n = true
    · obtain ⟨b1, b2⟩ := isNodeB_iff.1 h2
      obtain ⟨m, rfl⟩ := Int.eq_ofNat_of_zero_le b1
      have h3 : placeB ns.length W (i : Int) (m : Int) = true := placeB_iff.2 ⟨⟨by omega, by omega⟩, b1, b2⟩
      rw [h1, h2, h3]
      cases hk : ((ndn ns (m : Int).toNat).kind == 0) <;> simp [pstOf]
    · have h3 : placeB ns.length W (i : Int) n = false := placeB_no fun h => h2 (isNodeB_iff.2 h.2)
      have h2' : isNodeB ns.length n = false := by simpa using h2
      rw [h1, h2', h3]; rfl
  · have h3 : placeB ns.length W w n = false := placeB_no fun h => h1 (isWk_iff.2 ⟨w.toNat, by omega, by omega⟩)
    have h1' : isWk W w = false := by simpa using h1
    rw [h1', h3]; rfl
theorem pgiveE_eq (ns : List Nd) (W : Nat) (st : RSt) (lim : Nat) (w n : Int) : pgiveE ns W (pstOf ns W st lim) w n = giveE ns W st.opened w n := by
  unfold pgiveE giveE
  rw [psrcE_eq]
  have : decide (20 ≤ (pstOf ns W st lim).gv) = decide (20 ≤ giveTo st.opened st.opened.length) := by
    simp only [pstOf]
    exact decide_eq_decide.2 ⟨fun h => by omega, fun h => by omega⟩
  rw [this]
theorem padvE_eq (ns : List Nd) (W : Nat) (st : RSt) (lim : Nat) (w n : Int) : padvE ns W (pstOf ns W st lim) w n = advE ns W st.opened w n := by
  unfold padvE advE
  rw [psrcE_eq]
  by_cases h : (sourceE ns W st.opened w n != 0) = true
  · rw [if_pos h, if_pos h]
  · rw [if_neg h, if_neg h]
    have h0 : psrcE ns W (pstOf ns W st lim).cl w n = 0 := by rw [psrcE_eq]; simpa using h
    obtain ⟨i, m, rfl, rfl, _, _⟩ := psrcE_zero h0
    have : decide (5 ≤ (pstOf ns W st lim).ep (i : Int).toNat (m : Int).toNat) = decide (5 ≤ doneTo st.opened (i : Int) (m : Int) 2 st.opened.length) := by
      simp only [pstOf, Int.toNat_natCast]
      exact decide_eq_decide.2 ⟨fun h => by omega, fun h => by omega⟩
    rw [this]
/-- The program's run depends on what is in range alone. -/
theorem POwn.congr {w : World} {S : Nat → Prop} {pb : Nat} {x : PX} {ns : List Nd} {R W : Nat} {D : Nat → Nat → Int} {st st' : PSt} (h : POwn w S pb x ns R W D st) (h1 : ∀ i n, i < W → n < ns.length → st'.ep i n = st.ep i n ∧ st'.cl i n = st.cl i n ∧ st'.wt i n = st.wt i n) (h2 : ∀ i, i < W → ∀ k, k < 384 → st'.tb i k = st.tb i k) (h3 : st'.gv = st.gv) (h4 : st.lim ≤ st'.lim) (h5 : (∀ i n, (st'.wt i n).length ≤ 1000000) ∧ st'.lim ≤ 1000000) : POwn w S pb x ns R W D st' := by
  obtain ⟨a1, a2, a3, a4, a5, a6, a7, a8, a9, a10, a11, a12, a13, a14, a15⟩ := h
  refine ⟨a1, a2, a3, a4, a5, by rw [h3]; exact a6, a7, a8, a9, a10, a11, a12, ⟨a13.size, fun i n hi hn => ?_, fun i n hi hn => ?_, fun i hi k hk => ?_, fun i j hi hj => ?_, a13.own, a13.inj⟩, a14, h5⟩
  · rw [(h1 i n hi hn).1, (h1 i n hi hn).2.1]; exact a13.src i n hi hn
  · rw [(h1 i n hi hn).2.2]; exact a13.wait i n hi hn
  · rw [h2 i hi k hk]; exact a13.bel i hi k hk
  · obtain ⟨v, k, xs, e, b1, b2⟩ := a13.way i j hi hj
    exact ⟨v, k, xs, e, b1, by omega⟩
end Go.Proofs.YtfemleimkbjehaaGreat
namespace Go.Proofs.YtfemleimkbjehaaGreat
set_option linter.unusedVariables false
set_option linter.unusedSimpArgs false
open Go.RowKit

def wL (ms : List Ml) (w n : Int) : Nat → List Gv
  | 0 => []
  | i + 1 => if waitB ms w n i then wL ms w n i ++ [msgOf (mln ms i)] else wL ms w n i
theorem wL_eq (ms : List Ml) (w n : Int) : ∀ k, (waitTo ms w n k).map (fun z => msgOf (mln ms z.toNat)) = wL ms w n k := by
  intro k
  induction k with
  | zero => rfl
  | succ k ih =>
    rw [waitTo, wL]
    split
    · rw [List.map_append, ih]; simp
    · exact ih
theorem waitL_eq (ms : List Ml) (w n : Int) : waitL ms w n = wL ms w n ms.length := wL_eq ms w n ms.length
theorem mln_app {ms : List Ml} {x : Ml} {i : Nat} (hi : i < ms.length) : mln (ms ++ [x]) i = mln ms i := by simp [mln, List.getD, List.getElem?_append_left hi]
theorem mln_last (ms : List Ml) (x : Ml) : mln (ms ++ [x]) ms.length = x := by simp [mln, List.getD]
theorem wL_app (ms : List Ml) (x : Ml) (w n : Int) : ∀ k, k ≤ ms.length → wL (ms ++ [x]) w n k = wL ms w n k := by
  intro k
  induction k with
  | zero => intro _; rfl
  | succ k ih =>
    intro hk
    rw [wL, wL, ih (by omega)]
    unfold waitB
    rw [mln_app (by omega)]
theorem waitL_snoc (ms : List Ml) (x : Ml) (w n : Int) : waitL (ms ++ [x]) w n = waitL ms w n ++ (if !x.gone && (x.worker == w) && (x.node == n) then [msgOf x] else []) := by
  rw [waitL_eq, waitL_eq, List.length_append, List.length_singleton, wL, wL_app ms x w n _ (Nat.le_refl _)]
  unfold waitB
  rw [mln_last]
  split <;> simp
theorem waitL_put (ns : List Nd) (W : Nat) (i : Nat) (hi : i < W) (n : Int) (m : Gv) (ms : List Ml) : ∀ k (a b : Nat), waitL (ms ++ putM ns W i n m k) a b = wtPut ns W i n m (fun p q => waitL ms p q) k a b := by
  intro k
  induction k with
  | zero => intro a b; simp [putM, wtPut]
  | succ k ih =>
    intro a b
    obtain ⟨h0, h1⟩ := atI_lt (ns := ns) (k := k) (v := m.value) hi
    obtain ⟨t, ht⟩ := Int.eq_ofNat_of_zero_le h0
    unfold putM wtPut
    split
    · rw [← List.append_assoc, waitL_snoc, ih a b]
      simp only [ht, Int.toNat_natCast, Bool.not_false, Bool.true_and]
      unfold upd2
      by_cases e : a = t ∧ b = k
      · obtain ⟨rfl, rfl⟩ := e
        simp [msgOf]
      · rw [if_neg e]
        have : ((t : Int) == (a : Int) && ((k : Int) == (b : Int))) = false := by
          rw [Bool.eq_false_iff]
          intro h
          simp at h
          omega
        simp [this]
    · exact ih a b
theorem cgn_app {cs : List Cg} {c : Cg} {i : Nat} (hi : i < cs.length) : cgn (cs ++ [c]) i = cgn cs i := by simp [cgn, List.getD, List.getElem?_append_left hi]
theorem cgn_last (cs : List Cg) (c : Cg) : cgn (cs ++ [c]) cs.length = c := by simp [cgn, List.getD]
theorem seenT_app (cs : List Cg) (c : Cg) : ∀ k, k ≤ cs.length → seenT (cs ++ [c]) k = seenT cs k := by
  intro k
  induction k with
  | zero => intro _; rfl
  | succ k ih => intro hk; rw [seenT, seenT, ih (by omega), cgn_app (by omega)]
theorem tabLog_app (ns : List Nd) (R W : Nat) (cs : List Cg) (c : Cg) (told : Nat → Nat → Int) (w : Nat) : ∀ k, k ≤ cs.length → tabLog ns R W (cs ++ [c]) told w k = tabLog ns R W cs told w k := by
  intro k
  induction k with
  | zero => intro _; rfl
  | succ k ih =>
    intro hk
    have hl : lateB (cs ++ [c]) told w k = lateB cs told w k := by
      unfold lateB
      rw [cgn_app (by omega), seenT_app cs c _ (by omega)]
    rw [tabLog, tabLog, ih (by omega), hl, cgn_app (by omega)]
/-- A new change is believed by its maker alone, as long as nothing is told. -/
theorem tabLog_snoc (ns : List Nd) (R W : Nat) (cs : List Cg) (c : Cg) (w i : Nat) (hc : c.worker = (i : Int)) : tabLog ns R W (cs ++ [c]) (fun _ _ => 0) w (cs ++ [c]).length = if w = i then tabPts R (tabLog ns R W cs (fun _ _ => 0) w cs.length) c.pts c.pts.length else tabLog ns R W cs (fun _ _ => 0) w cs.length := by
  rw [List.length_append, List.length_singleton, tabLog, tabLog_app ns R W cs c _ w _ (Nat.le_refl _)]
  unfold lateB
  rw [cgn_last, hc, seenT, seenT_app cs c _ (Nat.le_refl _), cgn_last, hc, Int.toNat_natCast, updT_eq]
  have h1 := (seenT_bd cs i cs.length).1
  have h2 : decide ((0 : Int) < seenT cs cs.length i + 1) = true := by simp; omega
  rw [h2, Bool.and_true]
  by_cases e : w = i
  · subst e; simp
  · rw [if_neg e, if_pos (by simp; omega)]
end Go.Proofs.YtfemleimkbjehaaGreat
