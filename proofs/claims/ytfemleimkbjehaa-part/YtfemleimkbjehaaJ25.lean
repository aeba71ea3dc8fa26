import Derived.Test.YtfemleimkbjehaaJ24
set_option maxRecDepth 1000000
set_option maxHeartbeats 40000000
set_option linter.unusedVariables false
set_option linter.unusedSimpArgs false
namespace Go.Proofs.Ytfemleimkbjehaa
open Go.RowKit
theorem POwn.After.boxed {w w' : World} {S : Nat → Prop} {pb : Nat} {ns : List Nd} {R W : Nat} {D : Nat → Nat → Int} {st : PSt} (h : POwn.After w w' S pb ns R W D st) {g : Nat} {o : Obj} (hS : ∀ b, S b → b ≠ g) (hb : w.heap[g]? = some o) : w'.heap[g]? = some o := h.box (fun hs => hS g hs rfl) hb
theorem POwn.After.answer {w a b c : World} {S : Nat → Prop} {pb g : Nat} {ns : List Nd} {R W : Nat} {D : Nat → Nat → Int} {st : PSt} (hB : Bw w a) (h : POwn.After a b S pb ns R W D st) (hc : Chg (fun x => x = g) b c) (hg : w.heap.size ≤ g) (hga : g < a.heap.size) (hS : ∀ z, S z → z < w.heap.size) : POwn.After w c S pb ns R W D st := by
  obtain ⟨S', x', h1, h2, h3⟩ := h
  have hz := hB.size
  refine ⟨S', x', h1.other hc (fun z hz e => ?_), ((Chg.bw (S := S) hB).trans h2 (fun _ h => .inl h)).trans hc (fun z e => .inr (e ▸ hg)), fun z hz => (h3 z hz).imp id (fun h => by omega)⟩
  subst e
  rcases h3 z hz with h | h
  · have := hS z h; omega
  · omega
theorem POwn.After.bw {w a b : World} {S : Nat → Prop} {pb : Nat} {ns : List Nd} {R W : Nat} {D : Nat → Nat → Int} {st : PSt} (h : POwn.After w a S pb ns R W D st) (hb : Bw a b) : POwn.After w b S pb ns R W D st := by
  obtain ⟨S', x', h1, h2, h3⟩ := h
  exact ⟨S', x', h1.bw hb, h2.trans (Chg.bw (S := S) hb) (fun _ h => .inl h), h3⟩
set_option maxRecDepth 100000 in
set_option maxHeartbeats 8000000 in
theorem prdo_none {S : Nat → Prop} {pb : Nat} {x : PX} {ns : List Nd} {R W B : Nat} {D : Nat → Nat → Int} {st : PSt} {l : List Ev} (k : Int) (w : World) (hO : POwn w S pb x ns R W D st) (hact : ∀ w', Bw w w' → Calls Try.prog 122 #[.pointer (some ⟨pb, 0, none⟩), .int .i64 k] w' fun en w2 => en = .returned (.tuple #[Ev.val (uY l k), .bool (uF l k)]) ∧ Bw w' w2) (hA : uF l k = false) :
    Calls Try.prog 92 #[.pointer (some ⟨pb, 0, none⟩), .int .i64 k] w fun en w' => en = .returned (.tuple #[Ev.val ev0, .int .i64 3]) ∧ POwn.After w w' S pb ns R W D (st) := by
  have HnS : Hid (∀ z, S z → z < w.heap.size) := qJ hO.slt
  have Hact := qJ hact
  rw [hA] at Hact
  have HO := qJ hO
  generalize uY l k = y at *
  obtain ⟨yk, yw, yn, yi, ye, yr, yv⟩ := y
  simp only [Ev.val] at Hact
  clear hO hact hA
  go_enter Try.func92, Try.ntmps92
  go_wp2_with fail
  refine ((qK Hact) _ (by repeat first|exact br _|assumption|apply bd|apply bn|apply ba|refine bt ?_ (by assumption))).mono ?_
  rintro en w1 ⟨rfl, hb1⟩
  have hbx := (Below.block hb1 w.heap.size (by simp)).trans (heap_alloc_new w (.cells #[.int .i64 0, .int .i64 0, .int .i64 0, .int .i64 0, .int .i64 0, .int .i64 0, .int .i64 0] 120))
  have hB1 : Bw w w1 := (show Bw w (w.alloc (.cells #[.int .i64 0, .int .i64 0, .int .i64 0, .int .i64 0, .int .i64 0, .int .i64 0, .int .i64 0] 120)) from (by repeat first|exact br _|assumption|apply bd|apply bn|apply ba|refine bt ?_ (by assumption))).trans hb1
  have bl := (Array.getElem?_eq_some_iff.1 hbx).1
  have b0 := qQ (o := 0) hbx rfl
  have b1 := qQ (o := 1) hbx rfl
  have b2 := qQ (o := 2) hbx rfl
  have b3 := qQ (o := 3) hbx rfl
  have b4 := qQ (o := 4) hbx rfl
  have b5 := qQ (o := 5) hbx rfl
  have b6 := qQ (o := 6) hbx rfl
  have bf := fun o => qZ (o := o) hbx
  go_wp2_with fail
  obtain ⟨x0, x2⟩ := set7 hbx (.int .i64 0) (.int .i64 0) (.int .i64 0) (.int .i64 0) (.int .i64 0) (.int .i64 0) (.int .i64 0)
  obtain ⟨wE, hwE⟩ : ∃ wE, ((((((w1.setCell ⟨w.heap.size, 0, none⟩ (.int .i64 0)).setCell ⟨w.heap.size, 1, none⟩ (.int .i64 0)).setCell ⟨w.heap.size, 2, none⟩ (.int .i64 0)).setCell ⟨w.heap.size, 3, none⟩ (.int .i64 0)).setCell ⟨w.heap.size, 4, none⟩ (.int .i64 0)).setCell ⟨w.heap.size, 5, none⟩ (.int .i64 0)).setCell ⟨w.heap.size, 6, none⟩ (.int .i64 0) = wE := ⟨_, rfl⟩
  rw [hwE] at x0 x2
  rw [hwE]
  clear hwE
  obtain ⟨wF, hwF, hbF⟩ : ∃ wF, wE.alloc (.cells #[.int .i64 yk, .int .i64 yw, .int .i64 yn, .int .i64 yi, .int .i64 ye, .int .i64 yr, .int .i64 yv] 120) = wF ∧ Bw wE (wE.alloc (.cells #[.int .i64 yk, .int .i64 yw, .int .i64 yn, .int .i64 yi, .int .i64 ye, .int .i64 yr, .int .i64 yv] 120)) := ⟨_, rfl, (by repeat first|exact br _|assumption|apply bd|apply bn|apply ba|refine bt ?_ (by assumption))⟩
  rw [hwF] at hbF
  rw [hwF]
  have x3 := (Below.block hbF _ (Array.getElem?_eq_some_iff.1 x0).1).trans x0
  clear hwF b0 b1 b2 b3 b4 b5 b6 bf
  have e0 := qQ (o := 0) x3 rfl
  have e1 := qQ (o := 1) x3 rfl
  have e2 := qQ (o := 2) x3 rfl
  have e3 := qQ (o := 3) x3 rfl
  have e4 := qQ (o := 4) x3 rfl
  have e5 := qQ (o := 5) x3 rfl
  have e6 := qQ (o := 6) x3 rfl
  refine bodyPost_ret (v := .tuple #[Ev.val ev0, .int .i64 3]) (by simp [results, Try.results92, go_sem, e0, e1, e2, e3, e4, e5, e6, Ev.val, ev0]) rfl ⟨rfl, ?_⟩
  exact (POwn.After.answer hB1 ((qK HO).bw hB1).after_same x2 (Nat.le_refl _) bl (qK HnS)).bw hbF
set_option maxRecDepth 100000 in
set_option maxHeartbeats 8000000 in
theorem prdo_tell {S : Nat → Prop} {pb : Nat} {x : PX} {ns : List Nd} {R W B : Nat} {D : Nat → Nat → Int} {st : PSt} {l : List Ev} (k : Int) (w : World) (hO : POwn w S pb x ns R W D st) (hact : ∀ w', Bw w w' → Calls Try.prog 122 #[.pointer (some ⟨pb, 0, none⟩), .int .i64 k] w' fun en w2 => en = .returned (.tuple #[Ev.val (uY l k), .bool (uF l k)]) ∧ Bw w' w2) (a y : Nat) (ha : a < W) (hy4 : y < 4) (hne : (st.wy a y).length ≠ 0) (hok : ∀ c ∈ st.wy a y, c.length ≤ 1000 ∧ ∀ q ∈ c, wP 8 4 q) (hB0 : uF l k = true) (hA : uY l k = ⟨3, a, 0, y, 0, 0, 0⟩) :
    Calls Try.prog 92 #[.pointer (some ⟨pb, 0, none⟩), .int .i64 k] w fun en w' => en = .returned (.tuple #[Ev.val ⟨3, a, 0, y, 0, 0, 0⟩, .int .i64 0]) ∧ POwn.After w w' S pb ns R W D (zF st a y) := by
  have HnS : Hid (∀ z, S z → z < w.heap.size) := qJ hO.slt
  have Hact := qJ hact
  rw [hB0, hA] at Hact
  simp only [Ev.val] at Hact
  have HO := qJ hO
  have Hc := qJ (fun (w' : World) (h : Bw w w') => ptell_any a y w' (hO.bw h) ha hy4 hne hok)
  clear hO hact hA hB0
  go_enter Try.func92, Try.ntmps92
  go_wp2_with fail
  refine ((qK Hact) _ (by repeat first|exact br _|assumption|apply bd|apply bn|apply ba|refine bt ?_ (by assumption))).mono ?_
  rintro en w1 ⟨rfl, hb1⟩
  have hbx := (Below.block hb1 w.heap.size (by simp)).trans (heap_alloc_new w (.cells #[.int .i64 0, .int .i64 0, .int .i64 0, .int .i64 0, .int .i64 0, .int .i64 0, .int .i64 0] 120))
  have hB1 : Bw w w1 := (show Bw w (w.alloc (.cells #[.int .i64 0, .int .i64 0, .int .i64 0, .int .i64 0, .int .i64 0, .int .i64 0, .int .i64 0] 120)) from (by repeat first|exact br _|assumption|apply bd|apply bn|apply ba|refine bt ?_ (by assumption))).trans hb1
  have bl := (Array.getElem?_eq_some_iff.1 hbx).1
  go_wp2_with fail
  obtain ⟨w0, hw0⟩ : ∃ w0, (w1.alloc (.cells #[.int .i64 (3), .int .i64 (a), .int .i64 (0), .int .i64 (y), .int .i64 (0), .int .i64 (0), .int .i64 (0)] 120)).alloc (.cells #[.int .i64 (0), .int .i64 (0)] 75) = w0 := ⟨_, rfl⟩
  have hA0 := yU w1 (.cells #[.int .i64 (3), .int .i64 (a), .int .i64 (0), .int .i64 (y), .int .i64 (0), .int .i64 (0), .int .i64 (0)] 120) (.cells #[.int .i64 (0), .int .i64 (0)] 75)
  rw [hw0] at hA0
  rw [hw0]
  obtain ⟨hev, htm, hb0⟩ := hA0
  have hbx0 := (Below.block hb0 _ bl).trans hbx
  have hB0 := hB1.trans hb0
  have hz1 : w.heap.size < w1.heap.size := bl
  clear hw0
  have v0 := qQ (o := 0) hev rfl
  have v1 := qQ (o := 1) hev rfl
  have v2 := qQ (o := 2) hev rfl
  have v3 := qQ (o := 3) hev rfl
  have v4 := qQ (o := 4) hev rfl
  have v5 := qQ (o := 5) hev rfl
  have v6 := qQ (o := 6) hev rfl
  have m0 := qQ (o := 0) htm rfl
  have m1 := qQ (o := 1) htm rfl
  have evl := (Array.getElem?_eq_some_iff.1 hev).1
  have tml := (Array.getElem?_eq_some_iff.1 htm).1
  go_wp2_with (go_at_call 126; refine ((qK Hc) _ (hB0.trans (by repeat first|exact br _|assumption|apply bd|apply bn|apply ba|refine bt ?_ (by assumption)))).mono ?_; rintro en w5 ⟨rfl, hA5⟩; have hbx5 := hA5.boxed (fun b hb => by have := (qK HnS) b hb; omega) hbx0; have hev5 := hA5.boxed (fun b hb => by have := (qK HnS) b hb; omega) hev; have f0 := qQ (o := 0) hev5 rfl; have f1 := qQ (o := 1) hev5 rfl; have f2 := qQ (o := 2) hev5 rfl; have f3 := qQ (o := 3) hev5 rfl; have f4 := qQ (o := 4) hev5 rfl; have f5 := qQ (o := 5) hev5 rfl; have f6 := qQ (o := 6) hev5 rfl; have g0 := qQ (o := 0) hbx5 rfl; have g1 := qQ (o := 1) hbx5 rfl; have g2 := qQ (o := 2) hbx5 rfl; have g3 := qQ (o := 3) hbx5 rfl; have g4 := qQ (o := 4) hbx5 rfl; have g5 := qQ (o := 5) hbx5 rfl; have g6 := qQ (o := 6) hbx5 rfl; have gf := fun o => qZ (o := o) hbx5; have gl := (Array.getElem?_eq_some_iff.1 hbx5).1; have fl := (Array.getElem?_eq_some_iff.1 hev5).1)
  obtain ⟨x0, x2⟩ := set7 hbx5 (.int .i64 3) (.int .i64 a) (.int .i64 0) (.int .i64 y) (.int .i64 0) (.int .i64 0) (.int .i64 0)
  obtain ⟨wE, hwE⟩ : ∃ wE, ((((((w5.setCell ⟨w.heap.size, 0, none⟩ (.int .i64 3)).setCell ⟨w.heap.size, 1, none⟩ (.int .i64 a)).setCell ⟨w.heap.size, 2, none⟩ (.int .i64 0)).setCell ⟨w.heap.size, 3, none⟩ (.int .i64 y)).setCell ⟨w.heap.size, 4, none⟩ (.int .i64 0)).setCell ⟨w.heap.size, 5, none⟩ (.int .i64 0)).setCell ⟨w.heap.size, 6, none⟩ (.int .i64 0) = wE := ⟨_, rfl⟩
  rw [hwE] at x0 x2
  rw [hwE]
  clear hwE
  clear g0 g1 g2 g3 g4 g5 g6 gf f0 f1 f2 f3 f4 f5 f6
  have e0 := qQ (o := 0) x0 rfl
  have e1 := qQ (o := 1) x0 rfl
  have e2 := qQ (o := 2) x0 rfl
  have e3 := qQ (o := 3) x0 rfl
  have e4 := qQ (o := 4) x0 rfl
  have e5 := qQ (o := 5) x0 rfl
  have e6 := qQ (o := 6) x0 rfl
  refine bodyPost_ret (v := .tuple #[Ev.val ⟨3, a, 0, y, 0, 0, 0⟩, .int .i64 0]) (by simp [results, Try.results92, go_sem, e0, e1, e2, e3, e4, e5, e6, Ev.val, ev0]) rfl ⟨rfl, ?_⟩
  exact POwn.After.answer hB0 hA5 x2 (Nat.le_refl _) (Nat.lt_of_lt_of_le bl hb0.size) (qK HnS)
set_option maxRecDepth 100000 in
set_option maxHeartbeats 8000000 in
theorem prdo_note {S : Nat → Prop} {pb : Nat} {x : PX} {ns : List Nd} {R W B : Nat} {D : Nat → Nat → Int} {st : PSt} {l : List Ev} (k : Int) (w : World) (hO : POwn w S pb x ns R W D st) (hact : ∀ w', Bw w w' → Calls Try.prog 122 #[.pointer (some ⟨pb, 0, none⟩), .int .i64 k] w' fun en w2 => en = .returned (.tuple #[Ev.val (uY l k), .bool (uF l k)]) ∧ Bw w' w2) (a n e s : Nat) (ha : a < W) (hn : n < ns.length) (he : e < 6) (hs4 : s < 4) (hI : PInv ns R st B) (hB : B ≤ 80000000) (hk : ∀ k, k < ns.length → yD (qV ns k)) (hk6 : (qV ns n).kind = 6) (hB0 : uF l k = true) (hA : uY l k = ⟨2, a, n, 0, e, s, 0⟩) :
    Calls Try.prog 92 #[.pointer (some ⟨pb, 0, none⟩), .int .i64 k] w fun en w' => en = .returned (.tuple #[Ev.val ⟨2, a, n, 0, e, s, 0⟩, .int .i64 0]) ∧ POwn.After w w' S pb ns R W D (yB ns W st a n e s) := by
  have HnS : Hid (∀ z, S z → z < w.heap.size) := qJ hO.slt
  have Hact := qJ hact
  rw [hB0, hA] at Hact
  simp only [Ev.val] at Hact
  have HO := qJ hO
  have Hc := qJ (fun (w' : World) (h : Bw w w') => pnotify_any a n e s w' (hO.bw h) ha hn he hs4 hI hB hk hk6)
  clear hO hact hA hB0
  go_enter Try.func92, Try.ntmps92
  go_wp2_with fail
  refine ((qK Hact) _ (by repeat first|exact br _|assumption|apply bd|apply bn|apply ba|refine bt ?_ (by assumption))).mono ?_
  rintro en w1 ⟨rfl, hb1⟩
  have hbx := (Below.block hb1 w.heap.size (by simp)).trans (heap_alloc_new w (.cells #[.int .i64 0, .int .i64 0, .int .i64 0, .int .i64 0, .int .i64 0, .int .i64 0, .int .i64 0] 120))
  have hB1 : Bw w w1 := (show Bw w (w.alloc (.cells #[.int .i64 0, .int .i64 0, .int .i64 0, .int .i64 0, .int .i64 0, .int .i64 0, .int .i64 0] 120)) from (by repeat first|exact br _|assumption|apply bd|apply bn|apply ba|refine bt ?_ (by assumption))).trans hb1
  have bl := (Array.getElem?_eq_some_iff.1 hbx).1
  go_wp2_with fail
  obtain ⟨w0, hw0⟩ : ∃ w0, (w1.alloc (.cells #[.int .i64 (2), .int .i64 (a), .int .i64 (n), .int .i64 (0), .int .i64 (e), .int .i64 (s), .int .i64 (0)] 120)).alloc (.cells #[.int .i64 (e), .int .i64 (s)] 75) = w0 := ⟨_, rfl⟩
  have hA0 := yU w1 (.cells #[.int .i64 (2), .int .i64 (a), .int .i64 (n), .int .i64 (0), .int .i64 (e), .int .i64 (s), .int .i64 (0)] 120) (.cells #[.int .i64 (e), .int .i64 (s)] 75)
  rw [hw0] at hA0
  rw [hw0]
  obtain ⟨hev, htm, hb0⟩ := hA0
  have hbx0 := (Below.block hb0 _ bl).trans hbx
  have hB0 := hB1.trans hb0
  have hz1 : w.heap.size < w1.heap.size := bl
  clear hw0
  have v0 := qQ (o := 0) hev rfl
  have v1 := qQ (o := 1) hev rfl
  have v2 := qQ (o := 2) hev rfl
  have v3 := qQ (o := 3) hev rfl
  have v4 := qQ (o := 4) hev rfl
  have v5 := qQ (o := 5) hev rfl
  have v6 := qQ (o := 6) hev rfl
  have m0 := qQ (o := 0) htm rfl
  have m1 := qQ (o := 1) htm rfl
  have evl := (Array.getElem?_eq_some_iff.1 hev).1
  have tml := (Array.getElem?_eq_some_iff.1 htm).1
  go_wp2_with (go_at_call 125; refine ((qK Hc) _ (hB0.trans (by repeat first|exact br _|assumption|apply bd|apply bn|apply ba|refine bt ?_ (by assumption)))).mono ?_; rintro en w5 ⟨rfl, hA5⟩; have hbx5 := hA5.boxed (fun b hb => by have := (qK HnS) b hb; omega) hbx0; have hev5 := hA5.boxed (fun b hb => by have := (qK HnS) b hb; omega) hev; have f0 := qQ (o := 0) hev5 rfl; have f1 := qQ (o := 1) hev5 rfl; have f2 := qQ (o := 2) hev5 rfl; have f3 := qQ (o := 3) hev5 rfl; have f4 := qQ (o := 4) hev5 rfl; have f5 := qQ (o := 5) hev5 rfl; have f6 := qQ (o := 6) hev5 rfl; have g0 := qQ (o := 0) hbx5 rfl; have g1 := qQ (o := 1) hbx5 rfl; have g2 := qQ (o := 2) hbx5 rfl; have g3 := qQ (o := 3) hbx5 rfl; have g4 := qQ (o := 4) hbx5 rfl; have g5 := qQ (o := 5) hbx5 rfl; have g6 := qQ (o := 6) hbx5 rfl; have gf := fun o => qZ (o := o) hbx5; have gl := (Array.getElem?_eq_some_iff.1 hbx5).1; have fl := (Array.getElem?_eq_some_iff.1 hev5).1)
  obtain ⟨x0, x2⟩ := set7 hbx5 (.int .i64 2) (.int .i64 a) (.int .i64 n) (.int .i64 0) (.int .i64 e) (.int .i64 s) (.int .i64 0)
  obtain ⟨wE, hwE⟩ : ∃ wE, ((((((w5.setCell ⟨w.heap.size, 0, none⟩ (.int .i64 2)).setCell ⟨w.heap.size, 1, none⟩ (.int .i64 a)).setCell ⟨w.heap.size, 2, none⟩ (.int .i64 n)).setCell ⟨w.heap.size, 3, none⟩ (.int .i64 0)).setCell ⟨w.heap.size, 4, none⟩ (.int .i64 e)).setCell ⟨w.heap.size, 5, none⟩ (.int .i64 s)).setCell ⟨w.heap.size, 6, none⟩ (.int .i64 0) = wE := ⟨_, rfl⟩
  rw [hwE] at x0 x2
  rw [hwE]
  clear hwE
  clear g0 g1 g2 g3 g4 g5 g6 gf f0 f1 f2 f3 f4 f5 f6
  have e0 := qQ (o := 0) x0 rfl
  have e1 := qQ (o := 1) x0 rfl
  have e2 := qQ (o := 2) x0 rfl
  have e3 := qQ (o := 3) x0 rfl
  have e4 := qQ (o := 4) x0 rfl
  have e5 := qQ (o := 5) x0 rfl
  have e6 := qQ (o := 6) x0 rfl
  refine bodyPost_ret (v := .tuple #[Ev.val ⟨2, a, n, 0, e, s, 0⟩, .int .i64 0]) (by simp [results, Try.results92, go_sem, e0, e1, e2, e3, e4, e5, e6, Ev.val, ev0]) rfl ⟨rfl, ?_⟩
  exact POwn.After.answer hB0 hA5 x2 (Nat.le_refl _) (Nat.lt_of_lt_of_le bl hb0.size) (qK HnS)
theorem PInv.take {ns : List Nd} {R B : Nat} {p : PSt} (h : PInv ns R p B) (a n i : Nat) : PInv ns R (jJ p a n i) B := by
  refine ⟨h.ep, h.gv, fun b m y hy => ?_, h.wn, h.w6, h.gs, h.wy, fun b m => ⟨?_, (h.few b m).2⟩, h.rcs⟩
  · simp only [jJ] at hy
    unfold kY at hy
    split at hy
    · exact h.wt a n y (List.mem_of_mem_eraseIdx hy)
    · exact h.wt b m y hy
  · simp only [jJ]
    unfold kY
    split
    · have := (h.few a n).1
      rw [List.length_eraseIdx]
      split <;> omega
    · exact (h.few b m).1
set_option maxRecDepth 100000 in
set_option maxHeartbeats 8000000 in
theorem prdo_work {S : Nat → Prop} {pb : Nat} {x : PX} {ns : List Nd} {R W B : Nat} {D : Nat → Nat → Int} {st : PSt} {l : List Ev} (k : Int) (w : World) (hO : POwn w S pb x ns R W D st) (hact : ∀ w', Bw w w' → Calls Try.prog 122 #[.pointer (some ⟨pb, 0, none⟩), .int .i64 k] w' fun en w2 => en = .returned (.tuple #[Ev.val (uY l k), .bool (uF l k)]) ∧ Bw w' w2) (a n i e s : Nat) (v : Int) (ha : a < W) (hn : n < ns.length) (hi : i < (st.wt a n).length) (he : e < 6) (hs : s < R) (hv1 : -9223372036854775808 ≤ v) (hv2 : v ≤ 9223372036854775807) (hI : PInv ns R st B) (hB : B ≤ 80000000) (hk : ∀ k, k < ns.length → yD (qV ns k)) (hB0 : uF l k = true) (hA : uY l k = ⟨1, a, n, i, e, s, v⟩) :
    Calls Try.prog 92 #[.pointer (some ⟨pb, 0, none⟩), .int .i64 k] w fun en w' => en = .returned (.tuple #[Ev.val ⟨1, a, n, i, e, s, v⟩, .int .i64 0]) ∧ POwn.After w w' S pb ns R W D (xQ ns R W (jJ st a n i) a n e s v) := by
  have HnS : Hid (∀ z, S z → z < w.heap.size) := qJ hO.slt
  have Hact := qJ hact
  rw [hB0, hA] at Hact
  simp only [Ev.val] at Hact
  have HO := qJ hO
  have Hc := qJ (fun (w' : World) (h : Bw w w') => ptakeMsg_any a n i w' (hO.bw h) ha hn hi)
  have HI2 : Hid (PInv ns R (jJ st a n i) B) := qJ (hI.take a n i)
  clear hO hact hA hB0
  go_enter Try.func92, Try.ntmps92
  go_wp2_with fail
  refine ((qK Hact) _ (by repeat first|exact br _|assumption|apply bd|apply bn|apply ba|refine bt ?_ (by assumption))).mono ?_
  rintro en w1 ⟨rfl, hb1⟩
  have hbx := (Below.block hb1 w.heap.size (by simp)).trans (heap_alloc_new w (.cells #[.int .i64 0, .int .i64 0, .int .i64 0, .int .i64 0, .int .i64 0, .int .i64 0, .int .i64 0] 120))
  have hB1 : Bw w w1 := (show Bw w (w.alloc (.cells #[.int .i64 0, .int .i64 0, .int .i64 0, .int .i64 0, .int .i64 0, .int .i64 0, .int .i64 0] 120)) from (by repeat first|exact br _|assumption|apply bd|apply bn|apply ba|refine bt ?_ (by assumption))).trans hb1
  have bl := (Array.getElem?_eq_some_iff.1 hbx).1
  go_wp2_with fail
  obtain ⟨w0, hw0⟩ : ∃ w0, (w1.alloc (.cells #[.int .i64 (1), .int .i64 (a), .int .i64 (n), .int .i64 (i), .int .i64 (e), .int .i64 (s), .int .i64 (v)] 120)).alloc (.cells #[.int .i64 (e), .int .i64 (s)] 75) = w0 := ⟨_, rfl⟩
  have hA0 := yU w1 (.cells #[.int .i64 (1), .int .i64 (a), .int .i64 (n), .int .i64 (i), .int .i64 (e), .int .i64 (s), .int .i64 (v)] 120) (.cells #[.int .i64 (e), .int .i64 (s)] 75)
  rw [hw0] at hA0
  rw [hw0]
  obtain ⟨hev, htm, hb0⟩ := hA0
  have hbx0 := (Below.block hb0 _ bl).trans hbx
  have hB0 := hB1.trans hb0
  have hz1 : w.heap.size < w1.heap.size := bl
  clear hw0
  have v0 := qQ (o := 0) hev rfl
  have v1 := qQ (o := 1) hev rfl
  have v2 := qQ (o := 2) hev rfl
  have v3 := qQ (o := 3) hev rfl
  have v4 := qQ (o := 4) hev rfl
  have v5 := qQ (o := 5) hev rfl
  have v6 := qQ (o := 6) hev rfl
  have m0 := qQ (o := 0) htm rfl
  have m1 := qQ (o := 1) htm rfl
  have evl := (Array.getElem?_eq_some_iff.1 hev).1
  have tml := (Array.getElem?_eq_some_iff.1 htm).1
  go_wp2_with fail
  refine ((qK Hc) _ hB0).mono ?_
  rintro en w4 ⟨rfl, hA4⟩
  have hbx4 := hA4.boxed (fun b hb => by have := (qK HnS) b hb; omega) hbx0
  have hev4 := hA4.boxed (fun b hb => by have := (qK HnS) b hb; omega) hev
  have htm4 := hA4.boxed (fun b hb => by have := (qK HnS) b hb; omega) htm
  obtain ⟨S4, x4, hO4, hC4, hS4⟩ := id hA4
  have p0 := qQ (o := 0) hev4 rfl
  have p1 := qQ (o := 1) hev4 rfl
  have p2 := qQ (o := 2) hev4 rfl
  have p3 := qQ (o := 3) hev4 rfl
  have p4 := qQ (o := 4) hev4 rfl
  have p5 := qQ (o := 5) hev4 rfl
  have p6 := qQ (o := 6) hev4 rfl
  have q0 := qQ (o := 0) htm4 rfl
  have q1 := qQ (o := 1) htm4 rfl
  have pl := (Array.getElem?_eq_some_iff.1 hev4).1
  have ql := (Array.getElem?_eq_some_iff.1 htm4).1
  have hz4 := hC4.size
  have HnS4 : Hid (∀ g, w.heap.size ≤ g → g < w0.heap.size → ∀ b, S4 b → b ≠ g) := qJ (fun g h1 h2 b hb e9 => by
    subst e9
    rcases hS4 b hb with h | h
    · have := (qK HnS) b h; omega
    · omega)
  have Hd := qJ (fun (w' : World) (h : Bw w4 w') => pwork_any a n e s v w' (hO4.bw h) ha hn he hs hv1 hv2 (qK HI2) hB hk)
  have HC4 := qJ hC4
  have HS4 := qJ hS4
  have blz : w.heap.size < w0.heap.size := Nat.lt_of_lt_of_le bl hb0.size
  clear hO4 hA4 hC4 hS4 Hc v0 v1 v2 v3 v4 v5 v6 m0 m1
  go_wp2_with (go_at_call 124; refine ((qK Hd) _ (by repeat first|exact br _|assumption|apply bd|apply bn|apply ba|refine bt ?_ (by assumption))).mono ?_; rintro en w5 ⟨rfl, hA5⟩; have hbx5 := hA5.boxed ((qK HnS4) _ (Nat.le_refl _) blz) hbx4; have hev5 := hA5.boxed ((qK HnS4) _ (by omega) evl) hev4; have f0 := qQ (o := 0) hev5 rfl; have f1 := qQ (o := 1) hev5 rfl; have f2 := qQ (o := 2) hev5 rfl; have f3 := qQ (o := 3) hev5 rfl; have f4 := qQ (o := 4) hev5 rfl; have f5 := qQ (o := 5) hev5 rfl; have f6 := qQ (o := 6) hev5 rfl; have g0 := qQ (o := 0) hbx5 rfl; have g1 := qQ (o := 1) hbx5 rfl; have g2 := qQ (o := 2) hbx5 rfl; have g3 := qQ (o := 3) hbx5 rfl; have g4 := qQ (o := 4) hbx5 rfl; have g5 := qQ (o := 5) hbx5 rfl; have g6 := qQ (o := 6) hbx5 rfl; have gf := fun o => qZ (o := o) hbx5; have gl := (Array.getElem?_eq_some_iff.1 hbx5).1; have fl := (Array.getElem?_eq_some_iff.1 hev5).1)
  obtain ⟨x0, x2⟩ := set7 hbx5 (.int .i64 1) (.int .i64 a) (.int .i64 n) (.int .i64 i) (.int .i64 e) (.int .i64 s) (.int .i64 v)
  obtain ⟨wE, hwE⟩ : ∃ wE, ((((((w5.setCell ⟨w.heap.size, 0, none⟩ (.int .i64 1)).setCell ⟨w.heap.size, 1, none⟩ (.int .i64 a)).setCell ⟨w.heap.size, 2, none⟩ (.int .i64 n)).setCell ⟨w.heap.size, 3, none⟩ (.int .i64 i)).setCell ⟨w.heap.size, 4, none⟩ (.int .i64 e)).setCell ⟨w.heap.size, 5, none⟩ (.int .i64 s)).setCell ⟨w.heap.size, 6, none⟩ (.int .i64 v) = wE := ⟨_, rfl⟩
  rw [hwE] at x0 x2
  rw [hwE]
  clear hwE
  clear p0 p1 p2 p3 p4 p5 p6 q0 q1 g0 g1 g2 g3 g4 g5 g6 gf f0 f1 f2 f3 f4 f5 f6
  have e0 := qQ (o := 0) x0 rfl
  have e1 := qQ (o := 1) x0 rfl
  have e2 := qQ (o := 2) x0 rfl
  have e3 := qQ (o := 3) x0 rfl
  have e4 := qQ (o := 4) x0 rfl
  have e5 := qQ (o := 5) x0 rfl
  have e6 := qQ (o := 6) x0 rfl
  refine bodyPost_ret (v := .tuple #[Ev.val ⟨1, a, n, i, e, s, v⟩, .int .i64 0]) (by simp [results, Try.results92, go_sem, e0, e1, e2, e3, e4, e5, e6, Ev.val, ev0]) rfl ⟨rfl, ?_⟩
  exact POwn.After.answer hB0 (After.of (qK HC4) (qK HS4) hA5) x2 (Nat.le_refl _) (Nat.lt_of_lt_of_le bl hb0.size) (qK HnS)
def doE (l : List Ev) (k : Int) : Int := if uF l k then 0 else 3
def doP (ns : List Nd) (R W : Nat) (p : PSt) (l : List Ev) (k : Int) : PSt := if uF l k then yJ ns R W p (uY l k) else p
theorem actB_mem {l : List Ev} {k : Int} (h : uF l k = true) : uY l k ∈ l := by
  unfold uF at h
  have h1 := of_decide_eq_true h
  unfold uY
  rw [if_pos h1]
  exact evn_mem (by omega)
theorem actA_none {l : List Ev} {k : Int} (h : uF l k = false) : uY l k = ev0 := by
  unfold uF at h
  have h1 := of_decide_eq_false h
  unfold uY
  rw [if_neg h1]
theorem prdo_any {S : Nat → Prop} {pb : Nat} {x : PX} {ns : List Nd} {R W B : Nat} {D : Nat → Nat → Int} {st : PSt} (frs : Nat → Nat → List Tm) (k : Int) (w : World) (hO : POwn w S pb x ns R W D st) (hF : FrOk S pb x ns R W D st frs) (hI : PInv ns R st B) (hB : B ≤ 80000000) (hk : ∀ k, k < ns.length → yD (qV ns k)) (hk9 : k ≤ 9223372036854775807) :
    Calls Try.prog 92 #[.pointer (some ⟨pb, 0, none⟩), .int .i64 k] w fun en w' => en = .returned (.tuple #[Ev.val (uY (kW ns.length W st frs W) k), .int .i64 (doE (kW ns.length W st frs W) k)]) ∧ POwn.After w w' S pb ns R W D (doP ns R W st (kW ns.length W st frs W) k) := by
  have h8 := hO.small
  have hact : ∀ w', Bw w w' → Calls Try.prog 122 #[.pointer (some ⟨pb, 0, none⟩), .int .i64 k] w' fun en w2 => en = .returned (.tuple #[Ev.val (uY (kW ns.length W st frs W) k), .bool (uF (kW ns.length W st frs W) k)]) ∧ Bw w' w2 := fun w' hb => paction_any frs k w' (hO.bw hb) hF hk9
  unfold doE doP
  cases hb : uF (kW ns.length W st frs W) k with
  | false =>
    rw [actA_none hb]
    exact prdo_none (B := B) k w hO hact hb
  | true =>
    rw [if_pos rfl, if_pos rfl]
    rcases pacts_mem W (Nat.le_refl _) (actB_mem hb) with ⟨a, n, i, ha, hn, hi, hy⟩ | ⟨a, n, e, s, ha, hn, he, hs, hw, _, hy⟩ | ⟨a, y, ha, hx, hl, hy⟩
    · obtain ⟨e, s, e1, h1, e2, h2, hv1, hv2⟩ := hI.wt a n _ (lZ hi)
      rw [e1, e2] at hy
      generalize hv : (vR (st.wt a n) i).value = v at *
      have hp : yJ ns R W st ⟨1, a, n, i, e, s, v⟩ = xQ ns R W (jJ st a n i) a n e s v := by
        unfold yJ
        rw [if_pos (by simp)]
        simp only [Int.toNat_natCast]
      have := prdo_work (R := R) k w hO hact a n i e s v ha hn hi h1 h2 hv1 hv2 hI hB hk hb hy
      rw [hy, hp]
      exact this
    · have hk6 : (qV ns n).kind = 6 := by
        rcases Classical.em ((qV ns n).kind = 6) with h | h
        · exact h
        · unfold wnOf at hw
          rw [hI.w6 a n _ (by omega) h] at hw
          cases hw
      have hp : yJ ns R W st ⟨2, a, n, 0, e, s, 0⟩ = yB ns W st a n e s := by
        unfold yJ
        rw [if_neg (by simp), if_pos (by simp)]
        simp only [Int.toNat_natCast]
      have := prdo_note (R := R) k w hO hact a n e s ha hn he hs hI hB hk hk6 hb hy
      rw [hy, hp]
      exact this
    · have hp : yJ ns R W st ⟨3, a, 0, y, 0, 0, 0⟩ = zF st a y := by
        unfold yJ
        rw [if_neg (by simp), if_neg (by simp)]
        simp only [Int.toNat_natCast]
      have := prdo_tell (R := R) (B := B) k w hO hact a y ha (by omega) hl (hI.wy a y) hb hy
      rw [hy, hp]
      exact this
set_option maxRecDepth 100000 in
set_option maxHeartbeats 4000000 in
theorem pdo_any {S : Nat → Prop} {pb : Nat} {x : PX} {ns : List Nd} {R W B : Nat} {D : Nat → Nat → Int} {st : PSt} (frs : Nat → Nat → List Tm) (k : Int) (w : World) (hO : POwn w S pb x ns R W D st) (hF : FrOk S pb x ns R W D st frs) (hI : PInv ns R st B) (hB : B ≤ 80000000) (hk : ∀ k, k < ns.length → yD (qV ns k)) (hk9 : k ≤ 9223372036854775807) :
    Calls Try.prog 65 #[.pointer (some ⟨pb, 0, none⟩), .int .i64 k] w fun en w' => en = .returned (.tuple #[Ev.val (uY (kW ns.length W st frs W) k), .int .i64 (doE (kW ns.length W st frs W) k)]) ∧ POwn.After w w' S pb ns R W D (doP ns R W st (kW ns.length W st frs W) k) := by
  have HnS : Hid (∀ z, S z → z < w.heap.size) := qJ hO.slt
  have Hd := qJ (fun (w' : World) (h : Bw w w') => prdo_any frs k w' (hO.bw h) hF hI hB hk hk9)
  have lt0 := hO.slt _ hO.sroot
  generalize uY (kW ns.length W st frs W) k = y at *
  generalize doE (kW ns.length W st frs W) k = er at *
  generalize doP ns R W st (kW ns.length W st frs W) k = st' at *
  obtain ⟨yk, yw, yn, yi, ye, yr, yv⟩ := y
  simp only [Ev.val] at Hd
  clear hO hF hI
  go_enter Try.func65, Try.ntmps65
  go_wp2_with (go_at_call 92; refine ((qK Hd) _ (by repeat first|exact br _|assumption|apply bd|apply bn|apply ba|refine bt ?_ (by assumption))).mono ?_; rintro en w5 ⟨rfl, hA5⟩; have hbx5 := hA5.boxed (fun b hb => by have := (qK HnS) b hb; omega) (heap_alloc_new w (.cells #[.int .i64 0, .int .i64 0, .int .i64 0, .int .i64 0, .int .i64 0, .int .i64 0, .int .i64 0] 120)); have g0 := qQ (o := 0) hbx5 rfl; have g1 := qQ (o := 1) hbx5 rfl; have g2 := qQ (o := 2) hbx5 rfl; have g3 := qQ (o := 3) hbx5 rfl; have g4 := qQ (o := 4) hbx5 rfl; have g5 := qQ (o := 5) hbx5 rfl; have g6 := qQ (o := 6) hbx5 rfl; have gf := fun o => qZ (o := o) hbx5; have gl := (Array.getElem?_eq_some_iff.1 hbx5).1)
  obtain ⟨x0, x2⟩ := set7 hbx5 (.int .i64 yk) (.int .i64 yw) (.int .i64 yn) (.int .i64 yi) (.int .i64 ye) (.int .i64 yr) (.int .i64 yv)
  obtain ⟨wE, hwE⟩ : ∃ wE, ((((((w5.setCell ⟨w.heap.size, 0, none⟩ (.int .i64 yk)).setCell ⟨w.heap.size, 1, none⟩ (.int .i64 yw)).setCell ⟨w.heap.size, 2, none⟩ (.int .i64 yn)).setCell ⟨w.heap.size, 3, none⟩ (.int .i64 yi)).setCell ⟨w.heap.size, 4, none⟩ (.int .i64 ye)).setCell ⟨w.heap.size, 5, none⟩ (.int .i64 yr)).setCell ⟨w.heap.size, 6, none⟩ (.int .i64 yv) = wE := ⟨_, rfl⟩
  rw [hwE] at x0 x2
  rw [hwE]
  clear hwE g0 g1 g2 g3 g4 g5 g6 gf
  have e0 := qQ (o := 0) x0 rfl
  have e1 := qQ (o := 1) x0 rfl
  have e2 := qQ (o := 2) x0 rfl
  have e3 := qQ (o := 3) x0 rfl
  have e4 := qQ (o := 4) x0 rfl
  have e5 := qQ (o := 5) x0 rfl
  have e6 := qQ (o := 6) x0 rfl
  refine bodyPost_ret (v := .tuple #[Ev.val ⟨yk, yw, yn, yi, ye, yr, yv⟩, .int .i64 er]) (by simp [results, Try.results65, go_sem, e0, e1, e2, e3, e4, e5, e6, Ev.val]) rfl ⟨rfl, ?_⟩
  exact POwn.After.answer (show Bw w _ from (by repeat first|exact br _|assumption|apply bd|apply bn|apply ba|refine bt ?_ (by assumption))) hA5 x2 (Nat.le_refl _) (by simp) (qK HnS)
set_option maxRecDepth 100000 in
set_option maxHeartbeats 4000000 in
theorem prout_any {S : Nat → Prop} {pb : Nat} {x : PX} {ns : List Nd} {R W : Nat} {D : Nat → Nat → Int} {st : PSt} (w : World) (hO : POwn w S pb x ns R W D st) :
    Calls Try.prog 53 #[.pointer (some ⟨pb, 0, none⟩)] w fun en w' => ∃ v, en = .returned v ∧ OwnC w w' v st.rc ∧ Bw w w' := by
  obtain ⟨qa, qc, hqe⟩ : ∃ qa qc, x.vr = .slice qa st.rc.length qc := ⟨_, _, qW hO.recs.1⟩
  have c5 := qQ (o := 5) hO.root (hqe ▸ hO.r5)
  have Hc := qJ (show CellsAt w qa st.rc.length (qM st.rc) from by have := vJ hO.recs.1; rw [hqe] at this; exact this)
  have lt0 := hO.slt _ hO.sroot
  have hl := hO.few.2
  clear hO hqe
  go_enter Try.func53, Try.ntmps53
  go_wp2_with (at_builtin; refine appG w rfl _ _ _ 110 rfl _ 5 40 Try.infoRec Try.underlying52 rfl (by decide) w.heap.size (.slice none 0 0) 0 [] rfl (World.ownsRow_nil _ _ _ _) _ st.rc.length _ (qM st.rc) rfl (uP _) (qK Hc) (uN _) (by omega) (by omega) (Nat.le_refl _) ?_; intro v1 w2 hown2 hgr2 hl2; have hB2 := gP hgr2; rw [Nat.zero_add, List.nil_append] at hown2)
  go_ret
  exact ⟨_, rfl, hown2, hB2⟩
set_option maxRecDepth 100000 in
set_option maxHeartbeats 4000000 in
theorem pout_any' {S : Nat → Prop} {pb : Nat} {x : PX} {ns : List Nd} {R W : Nat} {D : Nat → Nat → Int} {st : PSt} (w : World) (hO : POwn w S pb x ns R W D st) :
    Calls Try.prog 25 #[.pointer (some ⟨pb, 0, none⟩)] w fun en w' => ∃ v, en = .returned v ∧ OwnC w w' v st.rc ∧ Bw w w' := by
  have H := qJ (prout_any w hO)
  have lt0 := hO.slt _ hO.sroot
  clear hO
  go_enter Try.func25, Try.ntmps25
  go_wp2_with (go_at_call 53; refine (qK H).mono ?_; rintro en w1 ⟨v, rfl, ho, hb⟩)
  go_ret
  exact ⟨_, rfl, ho, hb⟩
set_option maxRecDepth 100000 in
set_option maxHeartbeats 4000000 in
theorem pact_any {S : Nat → Prop} {pb : Nat} {x : PX} {ns : List Nd} {R W : Nat} {D : Nat → Nat → Int} {st : PSt} (frs : Nat → Nat → List Tm) (w : World) (hO : POwn w S pb x ns R W D st) (hF : FrOk S pb x ns R W D st frs) :
    Calls Try.prog 36 #[.pointer (some ⟨pb, 0, none⟩)] w fun en w' => en = .returned (.int .i64 ((kW ns.length W st frs W).length : Nat)) ∧ Bw w w' := by
  have H := qJ (pactions_any frs w hO hF)
  have lt0 := hO.slt _ hO.sroot
  clear hO hF
  go_enter Try.func36, Try.ntmps36
  go_wp2_with (go_at_call 64; refine (qK H).mono ?_; rintro en w1 ⟨rfl, hb⟩)
  go_ret
  exact ⟨rfl, hb⟩
end Go.Proofs.Ytfemleimkbjehaa
