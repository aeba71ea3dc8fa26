import Derived.Test.YtfemleimkbjehaaJ17
import Derived.Test.YtfemleimkbjehaaJ16
import Derived.Test.YtfemleimkbjehaaJ8
import Derived.Test.YtfemleimkbjehaaJ11
set_option maxRecDepth 1000000
set_option maxHeartbeats 40000000
set_option linter.unusedVariables false
set_option linter.unusedSimpArgs false
namespace Go.Proofs.Ytfemleimkbjehaa
open Go.RowKit
theorem fQ {w : World} {B o : Nat} {arr : Array Value} {ty : TypeId} {Sg : Nat → Int} {Mg : Nat → Bool} (h : w.heap[B]? = some (.cells arr ty (0, 0))) (h1 : ∀ g, g < 8 → arr[o + g]? = some (.int .i64 (Sg g))) (h2 : ∀ g, g < 8 → arr[o + 8 + g]? = some (.bool (Mg g))) : Grp w B o Sg Mg :=
  ⟨(Array.getElem?_eq_some_iff.1 h).1, fun g hg => qQ h (h1 g hg), fun g hg => qQ h (h2 g hg), fun _ => qZ h⟩
theorem add_after {X w1 : World} {B p1 p2 : Nat} {arr : Array Value} {ty : TypeId} {v1 v2 : Value} (hX : X.heap[B]? = some (.cells arr ty (0, 0))) (hb1 : Bw ((X.setCell ⟨B, p1, none⟩ v1).setCell ⟨B, p2, none⟩ v2) w1) : w1.heap[B]? = some (.cells ((arr.setIfInBounds p1 v1).setIfInBounds p2 v2) ty (0, 0)) ∧ Chg (fun x => x = B) X w1 := by
  have h2 := qY (k := p2) (v := v2) (qY (k := p1) (v := v1) hX)
  exact ⟨(Below.block hb1 _ (Array.getElem?_eq_some_iff.1 h2).1).trans h2, ((qC _ _ _ _).trans (qC _ _ _ _) (fun _ h => .inl h)).trans (Chg.bw (S := fun x => x = B) hb1) (fun _ h => .inl h)⟩
set_option maxRecDepth 100000 in
set_option maxHeartbeats 8000000 in
theorem ptadd_any (v q : Int) (B o e s g : Nat) (arr : Array Value) (ty : TypeId) (Sg : Nat → Int) (Mg : Nat → Bool) (b : Bool) (w : World) (hB : w.heap[B]? = some (.cells arr ty (0, 0))) (he : e < 6) (hs : s < 4) (h1 : ∀ g, g < 8 → arr[o + 24 + e * 64 + s * 16 + g]? = some (.int .i64 (Sg g))) (h2 : ∀ g, g < 8 → arr[o + 24 + e * 64 + s * 16 + 8 + g]? = some (.bool (Mg g))) (h3 : arr[o + e * 4 + s]? = some (.bool b)) (hq1 : 1 ≤ q) (hq8 : q ≤ 8) (hg : v % q = g) (hg8 : g < 8) :
    Calls Try.prog 154 #[.pointer (some ⟨B, o, none⟩), .agg #[.int .i64 (e : Int), .int .i64 (s : Int)], .int .i64 v, .int .i64 q] w fun en w' => en = .returned (.bool (!b)) ∧ w'.heap[B]? = some (.cells (((arr.setIfInBounds (o + 24 + e * 64 + s * 16 + g) (.int .i64 (wrap64 (Sg g + v)))).setIfInBounds (o + 24 + e * 64 + s * 16 + 8 + g) (.bool true)).setIfInBounds (o + e * 4 + s) (.bool true)) ty (0, 0)) ∧ Chg (fun x => x = B) w w' := by
  have Hadd := qJ (fun (w' : World) (h : Bw w w') => gadd_any v q B (o + 24 + e * 64 + s * 16) g Sg Mg w' (fQ ((Below.block h _ (Array.getElem?_eq_some_iff.1 hB).1).trans hB) h1 h2) hq1 hq8 hg hg8)
  have HB := qJ hB
  have lt0 := (Array.getElem?_eq_some_iff.1 hB).1
  have he1 : (e : Int) < 6 := by omega
  have hs1 : (s : Int) < 4 := by omega
  have Hw3 := qJ (show (((arr.setIfInBounds (o + 24 + e * 64 + s * 16 + g) (.int .i64 (wrap64 (Sg g + v)))).setIfInBounds (o + 24 + e * 64 + s * 16 + 8 + g) (.bool true)))[o + e * 4 + s]? = some (.bool b) from by rw [Array.getElem?_setIfInBounds_ne (by omega), Array.getElem?_setIfInBounds_ne (by omega)]; exact h3)
  clear hB h1 h2 h3
  go_enter Try.func154, Try.ntmps154
  go_wp2_with fail
  go_region_with (go_at_call 160; refine ((qK Hadd) _ (by repeat first|exact br _|assumption|apply bd|apply bn|apply ba|refine bt ?_ (by assumption))).mono ?_; rintro en w1 ⟨rfl, hb1⟩; have Hb1 := qJ (add_after ((Below.block (show Bw w _ from (by repeat first|exact br _|assumption|apply bd|apply bn|apply ba|refine bt ?_ (by assumption))) _ lt0).trans (qK HB)) hb1); clear hb1)
  all_goals (
    obtain ⟨h1, hC1⟩ := qK Hb1
    have hbx := (hC1.block w.heap.size (by simp) (by omega)).trans (show ((w.alloc (.cells #[.int .i64 (e : Int), .int .i64 (s : Int)] 75)).drew).heap[w.heap.size]? = some (.cells #[.int .i64 (e : Int), .int .i64 (s : Int)] 75 (0, 0)) from heap_alloc_new w _)
    have t0 := qQ (o := 0) hbx rfl
    have t1 := qQ (o := 1) hbx rfl
    have tl := (Array.getElem?_eq_some_iff.1 hbx).1
    have c3 := qQ h1 (qK Hw3)
    have c3f := qZ (o := o + e * 4 + s) h1
    have c3l := (Array.getElem?_eq_some_iff.1 h1).1
    have HC : Hid (Chg (fun x => x = B) w w1) := qJ ((Chg.bw (S := fun x => x = B) (show Bw w ((w.alloc (.cells #[.int .i64 (e : Int), .int .i64 (s : Int)] 75)).drew) from (by repeat first|exact br _|assumption|apply bd|apply bn|apply ba|refine bt ?_ (by assumption)))).trans hC1 (fun _ h => .inl h))
    have H1 := qJ h1
    clear h1 hC1 Hb1 hbx
    go_wp2_with fail
    go_region
    go_wp2_with fail
    go_region
    go_wp2_with fail
    go_ret
    have h2 := qY (k := o + e * 4 + s) (v := .bool true) (qK H1)
    have hbd : Bw (w1.setCell ⟨B, o + e * 4 + s, none⟩ (.bool true)) ((w1.setCell ⟨B, o + e * 4 + s, none⟩ (.bool true)).drew.drew) := (by repeat first|exact br _|assumption|apply bd|apply bn|apply ba|refine bt ?_ (by assumption))
    exact ⟨rfl, (Below.block hbd _ (Array.getElem?_eq_some_iff.1 h2).1).trans h2, ((qK HC).trans (qC w1 B (o + e * 4 + s) (.bool true)) (fun _ h => .inl h)).trans (Chg.bw (S := fun x => x = B) hbd) (fun _ h => .inl h)⟩)
def bX (arr : Array Value) (o : Nat) : List Value → Array Value
  | [] => arr
  | v :: vs => bX (arr.setIfInBounds o v) (o + 1) vs
theorem setL_size : ∀ (vs : List Value) (arr : Array Value) (o : Nat), (bX arr o vs).size = arr.size := by
  intro vs
  induction vs with
  | nil => intro arr o; rfl
  | cons v vs ih => intro arr o; rw [bX, ih]; simp
theorem dK : ∀ (vs : List Value) (arr : Array Value) (o p : Nat), (p < o ∨ o + vs.length ≤ p) → (bX arr o vs)[p]? = arr[p]? := by
  intro vs
  induction vs with
  | nil => intro arr o p _; rfl
  | cons v vs ih =>
    intro arr o p hp
    simp only [List.length_cons] at hp
    rw [bX, ih _ _ _ (by omega), Array.getElem?_setIfInBounds_ne (by omega)]
theorem setL_in : ∀ (vs : List Value) (arr : Array Value) (o j : Nat), j < vs.length → o + vs.length ≤ arr.size → (bX arr o vs)[o + j]? = vs[j]? := by
  intro vs
  induction vs with
  | nil => intro arr o j hj; simp at hj
  | cons v vs ih =>
    intro arr o j hj hs
    simp only [List.length_cons] at hj hs
    cases j with
    | zero => rw [bX, dK _ _ _ _ (by omega), Nat.add_zero, Array.getElem?_setIfInBounds_self_of_lt (by omega)]; rfl
    | succ j =>
      rw [bX, show o + (j + 1) = o + 1 + j by omega, ih _ _ _ (by omega) (by simp; omega)]
      simp
theorem heap_setL {B : Nat} {ty : TypeId} : ∀ (vs : List Value) (w : World) (o : Nat) (arr : Array Value), w.heap[B]? = some (.cells arr ty (0, 0)) → (w.setCells B o vs).heap[B]? = some (.cells (bX arr o vs) ty (0, 0)) ∧ Chg (fun x => x = B) w (w.setCells B o vs) := by
  intro vs
  induction vs with
  | nil => intro w o arr h; exact ⟨h, Chg.refl _ _⟩
  | cons v vs ih =>
    intro w o arr h
    obtain ⟨h1, h2⟩ := ih (w.setCell ⟨B, o, none⟩ v) (o + 1) _ (qY h)
    exact ⟨h1, (qC w B o v).trans h2 (fun _ h => .inl h)⟩
set_option maxRecDepth 100000 in
set_option maxHeartbeats 8000000 in
theorem pttake_any (B o e s : Nat) (arr : Array Value) (ty : TypeId) (Sg : Nat → Int) (Mg : Nat → Bool) (b : Bool) (w : World) (hB : w.heap[B]? = some (.cells arr ty (0, 0))) (he : e < 6) (hs : s < 4) (h1 : ∀ g, g < 8 → arr[o + 24 + e * 64 + s * 16 + g]? = some (.int .i64 (Sg g))) (h2 : ∀ g, g < 8 → arr[o + 24 + e * 64 + s * 16 + 8 + g]? = some (.bool (Mg g))) (h3 : arr[o + e * 4 + s]? = some (.bool b)) :
    Calls Try.prog 147 #[.pointer (some ⟨B, o, none⟩), .agg #[.int .i64 (e : Int), .int .i64 (s : Int)]] w fun en w' => ∃ u, en = .returned u ∧ OwnsIn (fun z => w.heap.size ≤ z) w' 3 1 u (vY Sg Mg 8).length ((vY Sg Mg 8).map (Value.int .i64)) ∧ Chg (fun x => x = B) w w' ∧ w'.heap[B]? = some (.cells ((bX arr (o + 24 + e * 64 + s * 16) [.int .i64 0, .int .i64 0, .int .i64 0, .int .i64 0, .int .i64 0, .int .i64 0, .int .i64 0, .int .i64 0, .bool false, .bool false, .bool false, .bool false, .bool false, .bool false, .bool false, .bool false]).setIfInBounds (o + e * 4 + s) (.bool false)) ty (0, 0)) := by
  have Hsum := qJ (fun (w' : World) (h : Bw w w') => gsums_any B (o + 24 + e * 64 + s * 16) Sg Mg w' (fQ ((Below.block h _ (Array.getElem?_eq_some_iff.1 hB).1).trans hB) h1 h2))
  have HB := qJ hB
  have lt0 := (Array.getElem?_eq_some_iff.1 hB).1
  have he1 : (e : Int) < 6 := by omega
  have hs1 : (s : Int) < 4 := by omega
  clear hB
  go_enter Try.func147, Try.ntmps147
  go_wp2_with fail
  go_region_with (go_at_call 155; refine ((qK Hsum) _ (by repeat first|exact br _|assumption|apply bd|apply bn|apply ba|refine bt ?_ (by assumption))).mono ?_; rintro en w1 ⟨v, rfl, ho1, hb1⟩)
  all_goals (
    have hB1 := (Below.block ((show Bw w ((w.alloc (.cells #[.int .i64 (e : Int), .int .i64 (s : Int)] 75)).drew) from (by repeat first|exact br _|assumption|apply bd|apply bn|apply ba|refine bt ?_ (by assumption))).trans hb1) _ lt0).trans (qK HB)
    have hbx := (Below.block hb1 w.heap.size (by simp)).trans (show ((w.alloc (.cells #[.int .i64 (e : Int), .int .i64 (s : Int)] 75)).drew).heap[w.heap.size]? = some (.cells #[.int .i64 (e : Int), .int .i64 (s : Int)] 75 (0, 0)) from heap_alloc_new w _)
    have t0 := qQ (o := 0) hbx rfl
    have t1 := qQ (o := 1) hbx rfl
    have tl := (Array.getElem?_eq_some_iff.1 hbx).1
    have k0 := fun g hg => qQ hB1 (h1 g hg)
    have k1 := fun g hg => qQ hB1 (h2 g hg)
    have kf := fun o => qZ (o := o) hB1
    have kl := (Array.getElem?_eq_some_iff.1 hB1).1
    have q0 : w1.cell? ⟨B, o + 24 + e * 64 + s * 16, none⟩ = some (.int .i64 (Sg 0)) := k0 0 (by omega)
    have q1 : w1.cell? ⟨B, o + 24 + e * 64 + s * 16 + 1, none⟩ = some (.int .i64 (Sg 1)) := k0 1 (by omega)
    have q2 : w1.cell? ⟨B, o + 24 + e * 64 + s * 16 + 2, none⟩ = some (.int .i64 (Sg 2)) := k0 2 (by omega)
    have q3 : w1.cell? ⟨B, o + 24 + e * 64 + s * 16 + 3, none⟩ = some (.int .i64 (Sg 3)) := k0 3 (by omega)
    have q4 : w1.cell? ⟨B, o + 24 + e * 64 + s * 16 + 4, none⟩ = some (.int .i64 (Sg 4)) := k0 4 (by omega)
    have q5 : w1.cell? ⟨B, o + 24 + e * 64 + s * 16 + 5, none⟩ = some (.int .i64 (Sg 5)) := k0 5 (by omega)
    have q6 : w1.cell? ⟨B, o + 24 + e * 64 + s * 16 + 6, none⟩ = some (.int .i64 (Sg 6)) := k0 6 (by omega)
    have q7 : w1.cell? ⟨B, o + 24 + e * 64 + s * 16 + 7, none⟩ = some (.int .i64 (Sg 7)) := k0 7 (by omega)
    have p0 : w1.cell? ⟨B, o + 24 + e * 64 + s * 16 + 8, none⟩ = some (.bool (Mg 0)) := k1 0 (by omega)
    have p1 : w1.cell? ⟨B, o + 24 + e * 64 + s * 16 + 9, none⟩ = some (.bool (Mg 1)) := k1 1 (by omega)
    have p2 : w1.cell? ⟨B, o + 24 + e * 64 + s * 16 + 10, none⟩ = some (.bool (Mg 2)) := k1 2 (by omega)
    have p3 : w1.cell? ⟨B, o + 24 + e * 64 + s * 16 + 11, none⟩ = some (.bool (Mg 3)) := k1 3 (by omega)
    have p4 : w1.cell? ⟨B, o + 24 + e * 64 + s * 16 + 12, none⟩ = some (.bool (Mg 4)) := k1 4 (by omega)
    have p5 : w1.cell? ⟨B, o + 24 + e * 64 + s * 16 + 13, none⟩ = some (.bool (Mg 5)) := k1 5 (by omega)
    have p6 : w1.cell? ⟨B, o + 24 + e * 64 + s * 16 + 14, none⟩ = some (.bool (Mg 6)) := k1 6 (by omega)
    have p7 : w1.cell? ⟨B, o + 24 + e * 64 + s * 16 + 15, none⟩ = some (.bool (Mg 7)) := k1 7 (by omega)
    clear k0 k1
    obtain ⟨x1, x2⟩ := heap_setL [.int .i64 0, .int .i64 0, .int .i64 0, .int .i64 0, .int .i64 0, .int .i64 0, .int .i64 0, .int .i64 0, .bool false, .bool false, .bool false, .bool false, .bool false, .bool false, .bool false, .bool false] w1 (o + 24 + e * 64 + s * 16) arr hB1
    have hch : (((((((((((((((w1.setCell ⟨B, o + 24 + e * 64 + s * 16, none⟩ (.int .i64 0)).setCell ⟨B, o + 24 + e * 64 + s * 16 + 1, none⟩ (.int .i64 0)).setCell ⟨B, o + 24 + e * 64 + s * 16 + 2, none⟩ (.int .i64 0)).setCell ⟨B, o + 24 + e * 64 + s * 16 + 3, none⟩ (.int .i64 0)).setCell ⟨B, o + 24 + e * 64 + s * 16 + 4, none⟩ (.int .i64 0)).setCell ⟨B, o + 24 + e * 64 + s * 16 + 5, none⟩ (.int .i64 0)).setCell ⟨B, o + 24 + e * 64 + s * 16 + 6, none⟩ (.int .i64 0)).setCell ⟨B, o + 24 + e * 64 + s * 16 + 7, none⟩ (.int .i64 0)).setCell ⟨B, o + 24 + e * 64 + s * 16 + 8, none⟩ (.bool false)).setCell ⟨B, o + 24 + e * 64 + s * 16 + 9, none⟩ (.bool false)).setCell ⟨B, o + 24 + e * 64 + s * 16 + 10, none⟩ (.bool false)).setCell ⟨B, o + 24 + e * 64 + s * 16 + 11, none⟩ (.bool false)).setCell ⟨B, o + 24 + e * 64 + s * 16 + 12, none⟩ (.bool false)).setCell ⟨B, o + 24 + e * 64 + s * 16 + 13, none⟩ (.bool false)).setCell ⟨B, o + 24 + e * 64 + s * 16 + 14, none⟩ (.bool false)).setCell ⟨B, o + 24 + e * 64 + s * 16 + 15, none⟩ (.bool false) = w1.setCells B (o + 24 + e * 64 + s * 16) [.int .i64 0, .int .i64 0, .int .i64 0, .int .i64 0, .int .i64 0, .int .i64 0, .int .i64 0, .int .i64 0, .bool false, .bool false, .bool false, .bool false, .bool false, .bool false, .bool false, .bool false] := rfl
    have c3 : (w1.setCells B (o + 24 + e * 64 + s * 16) [.int .i64 0, .int .i64 0, .int .i64 0, .int .i64 0, .int .i64 0, .int .i64 0, .int .i64 0, .int .i64 0, .bool false, .bool false, .bool false, .bool false, .bool false, .bool false, .bool false, .bool false]).cell? ⟨B, o + e * 4 + s, none⟩ = some (.bool b) := qQ x1 (by rw [dK _ _ _ _ (by left; omega)]; exact h3)
    have c3f := qZ (o := o + e * 4 + s) x1
    have c3l := (Array.getElem?_eq_some_iff.1 x1).1
    have hbx1 := (x2.block w.heap.size tl (by omega)).trans hbx
    have z0 := qQ (o := 0) hbx1 rfl
    have z1 := qQ (o := 1) hbx1 rfl
    have zl := (Array.getElem?_eq_some_iff.1 hbx1).1
    have Hx1 := qJ x1
    have Hx2 := qJ x2
    have Hch := qJ hch
    obtain ⟨va, vc, hve⟩ : ∃ va vc, v = .slice va (vY Sg Mg 8).length vc := ⟨_, _, qW (n := (vY Sg Mg 8).length) (by simpa [Own] using ho1)⟩
    subst hve
    have Ho1 := qJ ho1
    have Hbx1 := qJ hbx1
    generalize hwZ : w1.setCells B (o + 24 + e * 64 + s * 16) [.int .i64 0, .int .i64 0, .int .i64 0, .int .i64 0, .int .i64 0, .int .i64 0, .int .i64 0, .int .i64 0, .bool false, .bool false, .bool false, .bool false, .bool false, .bool false, .bool false, .bool false] = wZ at *
    clear x1 x2 hch hwZ ho1 hbx hbx1 h1 h2 h3
    go_wp2_with fail
    go_region
    all_goals (
      rw [qK Hch]
      go_wp2_with fail
      go_region
      go_wp2_with fail
      go_ret
      have hbd : Bw (wZ.setCell ⟨B, o + e * 4 + s, none⟩ (.bool false)) ((wZ.setCell ⟨B, o + e * 4 + s, none⟩ (.bool false)).drew.drew) := (by repeat first|exact br _|assumption|apply bd|apply bn|apply ba|refine bt ?_ (by assumption))
      have y2 := qY (k := o + e * 4 + s) (v := .bool false) (qK Hx1)
      have hC : Chg (fun x => x = B) w1 ((wZ.setCell ⟨B, o + e * 4 + s, none⟩ (.bool false)).drew.drew) := ((qK Hx2).trans (qC wZ B (o + e * 4 + s) (.bool false)) (fun _ h => .inl h)).trans (Chg.bw (S := fun x => x = B) hbd) (fun _ h => .inl h)
      have hB01 : Bw w w1 := (show Bw w ((w.alloc (.cells #[.int .i64 (e : Int), .int .i64 (s : Int)] 75)).drew) from (by repeat first|exact br _|assumption|apply bd|apply bn|apply ba|refine bt ?_ (by assumption))).trans hb1
      refine ⟨_, rfl, ⟨kU (kL (show w1.ownsRow _ 3 1 _ _ ((vY Sg Mg 8).map (Value.int .i64)) from qK Ho1) fun z hz => hC.block z (World.ownsRow.lt (qK Ho1) z hz).2 (fun e2 => ?_)) (Nat.zero_le _), fun z hz => ?_⟩, (Chg.bw (S := fun x => x = B) hB01).trans hC (fun _ h => .inl h), (Below.block hbd _ (Array.getElem?_eq_some_iff.1 y2).1).trans y2⟩
      · have h5 := (World.ownsRow.lt (qK Ho1) z hz).1
        simp at h5
        omega
      · have h5 := (World.ownsRow.lt (qK Ho1) z hz).1
        simp at h5
        omega))
theorem uL {w : World} {base n sz cap g p : Nat} {ty : TypeId} {xs : List Value} {u : Value} (h : w.ownsRow base ty sz (.slice (some ⟨g, 0, none⟩) n cap) n xs) (hp : p < xs.length) : (w.setCell ⟨g, p, none⟩ u).ownsRow base ty sz (.slice (some ⟨g, 0, none⟩) n cap) n (xs.set p u) := by
  obtain ⟨hl, h⟩ := h
  refine ⟨by rw [List.length_set]; exact hl, ?_⟩
  rcases h with ⟨h, _⟩ | ⟨g', cap', cur, e1, hb, hc, h1, h2, h3, h4⟩
  · simp at h
  · simp only [Value.slice.injEq, Option.some.injEq, Addr.mk.injEq] at e1
    obtain ⟨⟨rfl, _⟩, _, rfl⟩ := e1
    refine .inr ⟨g, cap, _, rfl, hb, qY hc, h1, h2, by simpa using h3, ?_⟩
    rw [Array.toList_setIfInBounds, List.take_set, h4]
def zG (ms : List Ml) (z : Nat) : List Ml := ms.set z { rS ms z with gone := true }
theorem gV (ms : List Ml) (z : Nat) : (zG ms z).length = ms.length := by simp [zG]
def zX (f : Nat → Nat → Int) (a b : Nat) : Nat → Nat → Int := fun i j => if i = a ∧ j = b then f a b + 1 else f i j
theorem POwn.reMsg {w w' : World} {S : Nat → Prop} {pb : Nat} {x : PX} {ns : List Nd} {R W i n g c : Nat} {D : Nat → Nat → Int} {st : PSt} {ms' : List Gv} (h : POwn w S pb x ns R W D st) (hi : i < W) (hn : n < ns.length) (hq : x.warr[i * 3684 + 16 + n]? = some (.slice (some ⟨g, 0, none⟩) (st.wt i n).length c)) (hc : Chg (fun b => b = g) w w') (hl : ms'.length = (st.wt i n).length)
    (ho : w'.ownsRow 0 117 3 (.slice (some ⟨g, 0, none⟩) (st.wt i n).length c) (st.wt i n).length (qB ms')) : POwn w' S pb x ns R W D { st with wt := kY st.wt i n ms' } := by
  have h8 := h.small
  obtain ⟨v0, e0, hv0⟩ := h.row.wait i n hi hn
  rw [hq] at e0
  simp only [Option.some.injEq] at e0
  subst e0
  obtain ⟨cg, hcg⟩ := zK hv0.1 (b := g) rfl
  have fr : ∀ {b : Nat} {cur : Array Value} {t : TypeId}, w.heap[b]? = some (.cells cur t (0, 0)) → t ≠ 117 → w'.heap[b]? = w.heap[b]? := by
    intro b cur t hb ht
    refine hc.block b (Array.getElem?_eq_some_iff.1 hb).1 (fun e => ?_)
    subst e
    rw [hcg] at hb
    simp only [Option.some.injEq, Obj.cells.injEq] at hb
    exact ht hb.2.1.symm
  have frO : ∀ (ty : TypeId) (sz : Nat) (u : Value) (m : Nat) (ys : List Value), ty ≠ 117 → OwnsIn S w ty sz u m ys → OwnsIn S w' ty sz u m ys := by
    intro ty sz u m ys ht ho
    refine ⟨kL ho.1 fun b hbb => ?_, ho.2⟩
    obtain ⟨cur, hc'⟩ := zK ho.1 hbb
    exact fr hc' ht
  have frM : ∀ (p : Nat) (u : Value) (m : Nat) (ys : List Value), p < W * 3684 → p ≠ i * 3684 + 16 + n → x.warr[p]? = some u → OwnsIn S w 117 3 u m ys → OwnsIn S w' 117 3 u m ys := by
    intro p u m ys hp hpne hpu ho
    refine ⟨kL ho.1 fun b hbb => ?_, ho.2⟩
    obtain ⟨cur, hc'⟩ := zK ho.1 hbb
    refine hc.block b (Array.getElem?_eq_some_iff.1 hc').1 (fun e => hpne (h.row.inj p _ b u _ hp (by omega) hpu hq hbb (by rw [e]; rfl)))
  refine ⟨(fr h.root (by decide)).trans h.root, h.r0, h.r1, h.r2, h.r3, h.r4, h.r5, (fr h.work (by decide)).trans h.work, h.sroot, h.swork, fun b hb => Nat.lt_of_lt_of_le (h.slt b hb) hc.size, frO _ _ _ _ _ (by decide) h.nodes, h.dist.map fun ty _ _ _ _ ht ho => frO _ _ _ _ _ (by rcases ht with rfl | rfl <;> decide) ho, frO _ _ _ _ _ (by decide) h.recs, ⟨h.row.size, h.row.src, fun a b ha hb => ?_, fun a b ha hb => ?_, h.row.tal, h.row.bel, fun a j ha hj => ?_, h.row.own, h.row.inj⟩, h.small, ⟨fun a b => ⟨?_, (h.few.1 a b).2⟩, h.few.2⟩⟩
  · by_cases e : a = i ∧ b = n
    · obtain ⟨rfl, rfl⟩ := e
      simp only [zZ]
      exact ⟨_, hq, by rw [hl]; exact ho, hv0.2⟩
    · simp only [yH _ _ e]
      obtain ⟨u, eu, hu⟩ := h.row.wait a b ha hb
      exact ⟨u, eu, frM _ u _ _ (by omega) (by omega) eu hu⟩
  · obtain ⟨u, eu, hu⟩ := h.row.letb a b ha hb
    exact ⟨u, eu, frM _ u _ _ (by omega) (by omega) eu hu⟩
  · obtain ⟨u, eu, hu⟩ := h.row.way a j ha hj
    exact ⟨u, eu, hu.map (fun _ h => h) (fun b cur _ hcur => fr hcur (by decide)) (fun _ _ _ ho => frO _ _ _ _ _ (by decide) ho)⟩
  · simp only [kY]
    split
    · rw [hl]; exact (h.few.1 i n).1
    · exact (h.few.1 a b).1
set_option maxRecDepth 100000 in
/-- The last message that waits at a node waits no longer. -/
theorem POwn.cutMsg {w : World} {S : Nat → Prop} {pb : Nat} {x : PX} {ns : List Nd} {R W i n g c m : Nat} {D : Nat → Nat → Int} {st : PSt} (h : POwn w S pb x ns R W D st) (hi : i < W) (hn : n < ns.length) (hq : x.warr[i * 3684 + 16 + n]? = some (.slice (some ⟨g, 0, none⟩) (st.wt i n).length c)) (hm : (st.wt i n).length = m + 1) :
    POwn (w.setCell ⟨x.wb, i * 3684 + 16 + n, none⟩ (.slice (some ⟨g, 0, none⟩) m c)) S pb { x with warr := x.warr.setIfInBounds (i * 3684 + 16 + n) (.slice (some ⟨g, 0, none⟩) m c) } ns R W D { st with wt := kY st.wt i n ((st.wt i n).take m) } := by
  have h8 := h.small
  obtain ⟨v0, e0, hv0⟩ := h.row.wait i n hi hn
  rw [hq] at e0
  simp only [Option.some.injEq] at e0
  subst e0
  have hqs := (Array.getElem?_eq_some_iff.1 hq).1
  have hat : (x.warr.setIfInBounds (i * 3684 + 16 + n) (.slice (some ⟨g, 0, none⟩) m c))[i * 3684 + 16 + n]? = some (.slice (some ⟨g, 0, none⟩) m c) := Array.getElem?_setIfInBounds_self_of_lt hqs
  have hne : ∀ (p : Nat), p ≠ i * 3684 + 16 + n → (x.warr.setIfInBounds (i * 3684 + 16 + n) (.slice (some ⟨g, 0, none⟩) m c))[p]? = x.warr[p]? := fun p hp => Array.getElem?_setIfInBounds_ne (fun e => hp e.symm)
  have back : ∀ (p b : Nat) (u : Value), (x.warr.setIfInBounds (i * 3684 + 16 + n) (.slice (some ⟨g, 0, none⟩) m c))[p]? = some u → Value.ownBlock u = some b → ∃ u', x.warr[p]? = some u' ∧ Value.ownBlock u' = some b := by
    intro p b u hu hb
    by_cases e : p = i * 3684 + 16 + n
    · subst e
      rw [hat] at hu
      simp only [Option.some.injEq] at hu
      subst hu
      exact ⟨_, hq, hb⟩
    · rw [hne p e] at hu
      exact ⟨u, hu, hb⟩
  refine h.setRow (qC _ _ _ _) (qY h.work) ⟨by simpa using h.row.size, fun a b ha hb => ⟨?_, ?_⟩, fun a b ha hb => ?_, fun a b ha hb => ?_, fun a b ha hb k hk => ?_, fun a ha k hk => ?_, fun a j ha hj => ?_, fun p b v hp hv hb => ?_, fun p q b v u hp hq' hv hu hb hb' => ?_⟩ ⟨rfl, rfl⟩ (fun a b => ⟨?_, (h.few.1 a b).2⟩)
  · rw [hne _ (by omega)]; exact (h.row.src a b ha hb).1
  · rw [hne _ (by omega)]; exact (h.row.src a b ha hb).2
  · by_cases e : a = i ∧ b = n
    · obtain ⟨rfl, rfl⟩ := e
      simp only [zZ]
      refine ⟨_, hat, ?_, hv0.2⟩
      obtain ⟨hl, h0 | ⟨g', cap, cur, e1, hgb, hc, h1, h2, h3, h4⟩⟩ := hv0.1
      · omega
      · simp only [Value.slice.injEq, Option.some.injEq, Addr.mk.injEq] at e1
        obtain ⟨⟨rfl, _⟩, _, rfl⟩ := e1
        have hlen : ((st.wt a b).take m).length = m := by rw [List.length_take]; omega
        refine ⟨by rw [tV, hlen], .inr ⟨g, c, cur, by rw [hlen], hgb, hc, by omega, h2, h3, ?_⟩⟩
        rw [hlen]
        have e3 : qB ((st.wt a b).take m) = (qB (st.wt a b)).take (m * 3) := by
          have key : ∀ (l : List Gv) (k : Nat), qB (l.take k) = (qB l).take (k * 3) := by
            intro l
            induction l with
            | nil => intro k; simp [qB]
            | cons y l ih =>
              intro k
              cases k with
              | zero => simp [qB]
              | succ k =>
                have h5 := ih k
                simp only [qB, List.take_succ_cons, List.flatMap_cons] at h5 ⊢
                rw [h5, show (k + 1) * 3 = y.cells.length + k * 3 by simp [Gv.cells]; omega, List.take_length_add_append]
          exact key _ _
        rw [e3, ← h4, List.take_take]
        congr 1
        omega
    · simp only [yH _ _ e]
      obtain ⟨u, eu, hu⟩ := h.row.wait a b ha hb
      exact ⟨u, by rw [hne _ (by omega)]; exact eu, hu⟩
  · obtain ⟨u, eu, hu⟩ := h.row.letb a b ha hb
    exact ⟨u, by rw [hne _ (by omega)]; exact eu, hu⟩
  · rw [hne _ (by have := cT (i := a) (a := i) (r := 32 + b * 408 + k) (s := 16 + n) (by omega) (by omega) (by omega); omega)]; exact h.row.tal a b ha hb k hk
  · rw [hne _ (by omega)]; exact h.row.bel a ha k hk
  · obtain ⟨u, eu, hu⟩ := h.row.way a j ha hj
    exact ⟨u, by rw [hne _ (by omega)]; exact eu, hu⟩
  · obtain ⟨u', h1, h2⟩ := back p b v hv hb
    exact h.row.own p b u' hp h1 h2
  · obtain ⟨v', h1, h2⟩ := back p b v hv hb
    obtain ⟨u', h3, h4⟩ := back q b u hu hb'
    exact h.row.inj p q b v' u' hp hq' h1 h3 h2 h4
  · simp only [kY]
    split
    · rw [List.length_take]; have := (h.few.1 i n).1; omega
    · exact (h.few.1 a b).1
theorem gvn_at {gv : List Gv} {k : Nat} (h : k < gv.length) : vR gv k = gv[k] := lJ _ _ h
theorem gvCells_set : ∀ (l : List Gv) (j : Nat) (y : Gv), j < l.length → qB (l.set j y) = (((qB l).set (j * 3) (.int .i64 y.node)).set (j * 3 + 1) (.int .i64 y.epoch)).set (j * 3 + 2) (.int .i64 y.value) := by
  intro l
  induction l with
  | nil => intro j y hj; simp at hj
  | cons a l ih =>
    intro j y hj
    have e3 : qB (a :: l) = a.cells ++ qB l := by simp [qB]
    have hl : a.cells.length = 3 := rfl
    cases j with
    | zero => simp [qB, Gv.cells]
    | succ j =>
      have h1 := ih j y (by simpa using hj)
      have e2 : qB ((a :: l).set (j + 1) y) = a.cells ++ qB (l.set j y) := by simp [qB]
      rw [e2, e3, h1, List.set_append_right _ _ (by rw [hl]; omega), List.set_append_right _ _ (by rw [hl]; omega), List.set_append_right _ _ (by rw [hl]; omega), hl, show (j + 1) * 3 - 3 = j * 3 by omega, show (j + 1) * 3 + 1 - 3 = j * 3 + 1 by omega, show (j + 1) * 3 + 2 - 3 = j * 3 + 2 by omega]
def lG (ms : List Gv) (k : Nat) : Nat → List Gv
  | 0 => ms
  | d + 1 => (lG ms k d).set (k + d) (vR ms (k + d + 1))
theorem xC (ms : List Gv) (k d : Nat) : (lG ms k d).length = ms.length := by
  induction d with
  | zero => rfl
  | succ d ih => rw [lG, List.length_set, ih]
theorem shfN_get (ms : List Gv) (k : Nat) : ∀ d p, p < ms.length → (lG ms k d)[p]? = some (if k ≤ p ∧ p < k + d then vR ms (p + 1) else vR ms p) := by
  intro d
  induction d with
  | zero => intro p hp; rw [lG, if_neg (by omega), List.getElem?_eq_getElem hp, gvn_at hp]
  | succ d ih =>
    intro p hp
    rw [lG, List.getElem?_set]
    by_cases e : k + d = p
    · subst e
      rw [if_pos rfl, if_pos (by rw [xC]; exact hp), if_pos ⟨by omega, by omega⟩]
    · rw [if_neg e, ih p hp]
      congr 1
      by_cases h : k ≤ p ∧ p < k + d
      · rw [if_pos h, if_pos ⟨h.1, by omega⟩]
      · rw [if_neg h, if_neg (by omega)]
theorem shfN_erase {ms : List Gv} {k m : Nat} (hm : ms.length = m + 1) (hk : k ≤ m) : (lG ms k (m - k)).take m = ms.eraseIdx k := by
  apply List.ext_getElem?
  intro p
  rw [List.getElem?_eraseIdx]
  by_cases hp : p < m
  · rw [List.getElem?_take_of_lt hp, shfN_get _ _ _ _ (by omega)]
    by_cases h : p < k
    · rw [if_neg (by omega), if_pos h, List.getElem?_eq_getElem (by omega), gvn_at (by omega)]
    · rw [if_pos (by omega), if_neg h, List.getElem?_eq_getElem (by omega), gvn_at (by omega)]
  · rw [List.getElem?_eq_none (by rw [List.length_take, xC]; omega)]
    split
    · omega
    · rw [List.getElem?_eq_none (by omega)]
set_option maxRecDepth 100000 in
set_option maxHeartbeats 8000000 in
theorem ptakeMsg_any {S : Nat → Prop} {pb : Nat} {x : PX} {ns : List Nd} {R W : Nat} {D : Nat → Nat → Int} {st : PSt} (i n k : Nat) (w : World) (hO : POwn w S pb x ns R W D st) (hi : i < W) (hn : n < ns.length) (hk : k < (st.wt i n).length) :
    Calls Try.prog 123 #[.pointer (some ⟨pb, 0, none⟩), .int .i64 (i : Int), .int .i64 (n : Int), .int .i64 (k : Int)] w fun en w' => en = .returned (.tuple #[]) ∧ POwn.After w w' S pb ns R W D { st with wt := kY st.wt i n ((st.wt i n).eraseIdx k) } := by
  have h8 := hO.small
  obtain ⟨v, hq, hv⟩ := hO.row.wait i n hi hn
  obtain ⟨hl0, h0 | ⟨g, cap, cur, e1, _, hcur, hlc, _⟩⟩ := id hv.1
  · omega
  · have hSg : S g := hv.2 g (by rw [e1]; rfl)
    rw [e1] at hq hv
    obtain ⟨m, hm⟩ : ∃ m, (st.wt i n).length = m + 1 := ⟨(st.wt i n).length - 1, by omega⟩
    have hfew := (hO.few.1 i n).1
    have c3 := qQ (o := 3) hO.root hO.r3
    have cq := qQ (o := i * 3684 + 16 + n) hO.work hq
    have lt0 := hO.slt _ hO.sroot
    have lt1 := hO.slt _ hO.swork
    have hi1 : (i : Int) < (W : Int) := by omega
    have hn8 : (n : Int) < 8 := by omega
    have HO := qJ hO
    have Hq := qJ hq
    have H0 : Hid (POwn w S pb x ns R W D { st with wt := kY st.wt i n (lG (st.wt i n) k 0) }) := qJ (by
      refine (congrArg (POwn w S pb x ns R W D) ?_).mp hO
      have : kY st.wt i n (lG (st.wt i n) k 0) = st.wt := by
        funext a b
        unfold kY
        split
        · rename_i h; rw [h.1, h.2]; rfl
        · rfl
      rw [this])
    rw [hm] at cq
    clear hO hq hv hcur
    go_enter Try.func123, Try.ntmps123
    go_wp2_with fail
    go_loopw [3] (fun q wr => ∃ d : Nat, k + d ≤ m ∧ q = .int .i64 ((k + d : Nat) : Int) ∧ POwn wr S pb x ns R W D { st with wt := kY st.wt i n (lG (st.wt i n) k d) } ∧ Chg S w wr) (fun q _ => m - (intOf q).toNat)
    case atStart => exact ⟨0, by omega, rfl, qK H0, Chg.refl _ _⟩
    case round =>
      clear c3 cq lt0 lt1 H0
      obtain ⟨d, hd, rfl, hOr, hC⟩ := hrel
      rename World => wr
      have c3 := qQ (o := 3) hOr.root hOr.r3
      have cq := qQ (o := i * 3684 + 16 + n) hOr.work (qK Hq)
      have lt0 := hOr.slt _ hOr.sroot
      have lt1 := hOr.slt _ hOr.swork
      have ltg := hOr.slt _ hSg
      rw [hm] at cq
      obtain ⟨v, hq, hv⟩ := hOr.row.wait i n hi hn
      rw [qK Hq] at hq
      simp only [Option.some.injEq] at hq
      subst hq
      simp only [zZ] at hv
      have hlm : (lG (st.wt i n) k d).length = m + 1 := by rw [xC]; exact hm
      have hgw : g ≠ x.wb := by
        obtain ⟨cur', hc'⟩ := zK hv.1 (b := g) rfl
        intro e
        rw [e, hOr.work] at hc'
        simp only [Option.some.injEq, Obj.cells.injEq] at hc'
        exact absurd hc'.2.1 (by decide)
      have hgp : g ≠ pb := by
        obtain ⟨cur', hc'⟩ := zK hv.1 (b := g) rfl
        intro e
        rw [e, hOr.root] at hc'
        simp only [Option.some.injEq, Obj.cells.injEq] at hc'
        exact absurd hc'.2.1 (by decide)
      by_cases hlt : k + d < m
      · obtain ⟨gb, goff, hge, _, hgc⟩ := fJ hv.1 (k + d + 1) (by omega)
        simp only [yQ, Option.some.injEq, Addr.mk.injEq] at hge
        obtain ⟨rfl, rfl, _⟩ := hge
        obtain ⟨m0, m1, m2⟩ := hgc (k + d + 1) (by omega)
        obtain ⟨n0, n1, n2⟩ := hgc (k + d) (by omega)
        have hgv : vR (lG (st.wt i n) k d) (k + d + 1) = vR (st.wt i n) (k + d + 1) := by
          have h5 := shfN_get (st.wt i n) k d (k + d + 1) (by omega)
          rw [if_neg (by omega)] at h5
          unfold vR at h5 ⊢
          rw [List.getD, h5]
          rfl
        rw [hgv] at m0 m1 m2
        simp only [Nat.zero_add] at m0 m1 m2 n0 n1 n2
        obtain ⟨cur', hcur'⟩ := zK hv.1 (b := g) rfl
        have gf := fun o => qZ (o := o) hcur'
        have Hv := qJ hv
        have HOr := qJ hOr
        have Hsh : Hid (lG (st.wt i n) k (d + 1) = (lG (st.wt i n) k d).set (k + d) (vR (st.wt i n) (k + d + 1))) := qJ rfl
        obtain ⟨j, hj⟩ : ∃ j, k + d = j := ⟨_, rfl⟩
        rw [hj] at m0 m1 m2 n0 n1 n2 Hsh hlt
        have hm1 : (j : Int) < (m : Int) := by omega
        have hm2 : (j : Int) + 1 < (m : Int) + 1 := by omega
        have hm3 : (j : Int) < (m : Int) + 1 := by omega
        have hj9 : j ≤ 100000000 := by omega
        generalize vR (st.wt i n) (j + 1) = y at *
        have hv1 : wr.ownsRow 0 117 3 (.slice (some ⟨g, 0, none⟩) (st.wt i n).length cap) (st.wt i n).length (qB (lG (st.wt i n) k d)) := by have h9 := hv.1; rw [xC] at h9; exact h9
        have hs1 := uL (p := j * 3) (u := .int .i64 y.node) hv1 (by rw [tV, hlm]; omega)
        have hs2 := uL (p := j * 3 + 1) (u := .int .i64 y.epoch) hs1 (by rw [List.length_set, tV, hlm]; omega)
        have hs3 := uL (p := j * 3 + 2) (u := .int .i64 y.value) hs2 (by rw [List.length_set, List.length_set, tV, hlm]; omega)
        rw [← gvCells_set _ _ _ (by omega), ← qK Hsh] at hs3
        have Hs3 := qJ hs3
        rw [hj]
        clear hOr hv hv1 hs1 hs2 hs3 hcur' hgc hgv
        go_wp2_with fail
        go_region
        all_goals (
          go_wp2_with fail
          go_roundw
          case rel =>
            have hbd : Bw (((wr.setCell ⟨g, j * 3, none⟩ (.int .i64 y.node)).setCell ⟨g, j * 3 + 1, none⟩ (.int .i64 y.epoch)).setCell ⟨g, j * 3 + 2, none⟩ (.int .i64 y.value)) ((((wr.setCell ⟨g, j * 3, none⟩ (.int .i64 y.node)).setCell ⟨g, j * 3 + 1, none⟩ (.int .i64 y.epoch)).setCell ⟨g, j * 3 + 2, none⟩ (.int .i64 y.value)).drew) := (by repeat first|exact br _|assumption|apply bd|apply bn|apply ba|refine bt ?_ (by assumption))
            have hcg : Chg (fun b => b = g) wr ((((wr.setCell ⟨g, j * 3, none⟩ (.int .i64 y.node)).setCell ⟨g, j * 3 + 1, none⟩ (.int .i64 y.epoch)).setCell ⟨g, j * 3 + 2, none⟩ (.int .i64 y.value)).drew) := (((qC _ _ _ _).trans (qC _ _ _ _) (fun _ h => .inl h)).trans (qC _ _ _ _) (fun _ h => .inl h)).trans (Chg.bw (S := fun b => b = g) hbd) (fun _ h => .inl h)
            have hO9 := (qK HOr).reMsg (i := i) (n := n) (g := g) (c := cap) (ms' := lG (st.wt i n) k (d + 1)) hi hn (by simp only [zZ]; rw [xC]; exact qK Hq) hcg (by simp only [zZ]; rw [xC, xC]) (by simp only [zZ]; rw [xC]; exact qP (qK Hs3) fun z hz => Below.block hbd z hz)
            refine ⟨d + 1, by omega, by rw [← Nat.add_assoc, hj]; go_num, ?_, hC.trans hcg (fun b hb => .inl (hb ▸ hSg))⟩
            refine (congrArg (POwn _ S pb x ns R W D) ?_).mp hO9
            congr 1
            funext a b
            unfold kY
            split <;> simp_all
          case measure => simp [intOf]; omega)
      · have hdm : k + d = m := by omega
        have hm1 : ¬ ((k + d : Nat) : Int) < (m : Int) := by omega
        have cqf := qZ (o := i * 3684 + 16 + n) hOr.work
        have hmc : (m : Int) ≤ (cap : Int) := by omega
        have hm0 : (0 : Int) ≤ (m : Int) := by omega
        have hcut := hOr.cutMsg (i := i) (n := n) (g := g) (c := cap) (m := m) hi hn (by simp only [zZ]; rw [xC]; exact qK Hq) (by simp only [zZ]; exact hlm)
        have hne := hOr.work
        have Hcut := qJ hcut
        have hsw := hOr.swork
        rw [show d = m - k by omega] at Hcut
        rw [hdm]
        clear hcut hOr hv hne
        go_wp2_with fail
        go_region
        all_goals (
          go_wp2_with fail
          go_end0
          refine ⟨rfl, S, { x with warr := x.warr.setIfInBounds (i * 3684 + 16 + n) (.slice (some ⟨g, 0, none⟩) m cap) }, ?_, (hC.trans (qC wr x.wb (i * 3684 + 16 + n) (.slice (some ⟨g, 0, none⟩) m cap)) (fun b hb => .inl (hb ▸ hsw))).trans (Chg.bw (S := S) (show Bw _ _ from (by repeat first|exact br _|assumption|apply bd|apply bn|apply ba|refine bt ?_ (by assumption)))) (fun _ h => .inl h), fun b hb => .inl hb⟩
          refine (congrArg (POwn _ S pb _ ns R W D) ?_).mp ((qK Hcut).bw (by repeat first|exact br _|assumption|apply bd|apply bn|apply ba|refine bt ?_ (by assumption)))
          congr 1
          funext a b
          unfold kY
          split
          · rename_i h
            obtain ⟨rfl, rfl⟩ := h
            simp only [and_self, if_true]
            exact shfN_erase hm (by omega)
          · rfl)
end Go.Proofs.Ytfemleimkbjehaa
