import Derived.Test.YtfemleimkbjehaaLaw4
namespace Go.Proofs.Ytfemleimkbjehaa
open Go.RowKit

theorem Own.pos {W w : World} {v : Value} {xs : List Int} (h : Own W w v xs) (h0 : 0 < xs.length) : ∃ g cap, v = .slice (some ⟨g, 0, none⟩) xs.length cap ∧ W.heap.size ≤ g ∧ g < w.heap.size ∧ (∀ o, w.frozen? ⟨g, o, none⟩ = false) ∧ ∀ j, j < xs.length → w.cell? ⟨g, j, none⟩ = some (.int .i64 (nth xs j)) := by
  obtain ⟨hl, h'⟩ := id h
  rcases h' with ⟨e, h0'⟩ | ⟨g, cap, cur, e, hg, hc, h1, h2, h3, h4⟩
  · omega
  · refine ⟨g, cap, e, hg, (Array.getElem?_eq_some_iff.1 hc).1, fun o => frozen_of_block hc, ?_⟩
    obtain ⟨ad, cap', e', hx, _⟩ := h.form
    intro j hj
    obtain ⟨b, off, ea, _, hcc⟩ := hx j hj
    rw [e] at e'
    simp at e'
    obtain ⟨rfl, rfl⟩ := e'
    simp at ea
    obtain ⟨rfl, rfl⟩ := ea
    simpa using hcc j hj

theorem Own.new {W a a' b : World} {g : Nat} {v : Value} {xs : List Int} (h : Own W a v xs) (ha : Bw a a') (hg : a.heap.size ≤ g) (hb : Kp g a' b) : Own W b v xs := by
  obtain ⟨hl, h⟩ := h
  refine ⟨hl, ?_⟩
  rcases h with h | ⟨k, cap, cur, e, hk, hc, r⟩
  · exact .inl h
  · have hlt := (Array.getElem?_eq_some_iff.1 hc).1
    exact .inr ⟨k, cap, cur, e, hk, (World.grownBy.block hb k (Nat.lt_of_lt_of_le hlt ha.size) (by simp; omega)).trans ((Below.block ha k hlt).trans hc), r⟩

theorem Own.set {W w : World} {g cap k : Nat} {xs : List Int} (h : Own W w (.slice (some ⟨g, 0, none⟩) xs.length cap) xs) (n : Int) (_hk : k < xs.length) :
    Own W (w.setCell ⟨g, k, none⟩ (.int .i64 n)) (.slice (some ⟨g, 0, none⟩) xs.length cap) (xs.set k n) := by
  obtain ⟨hl, h⟩ := h
  rcases h with ⟨e, _⟩ | ⟨g', cap', cur, e, hg, hc, h1, h2, h3, h4⟩
  · cases e
  · simp at e
    obtain ⟨rfl, rfl⟩ := e
    refine ⟨by simp, .inr ⟨g, cap, cur.setIfInBounds k (.int .i64 n), by simp, hg, ?_, by simpa using h1, h2, by simpa using h3, ?_⟩⟩
    · rw [setCell_eq_setRow w g k cur 3 (0, 0) _ hc]
      exact setRow_heap w g cur _ _ _ hc
    · simp only [Nat.mul_one] at h4
      rw [Array.toList_setIfInBounds, List.length_set, Nat.mul_one, List.take_set, h4, List.map_set]

theorem Own.kp {W a b : World} {g : Nat} {v : Value} {xs : List Int} (h : Own W a v xs) (hg : g < W.heap.size) (hb : Kp g a b) : Own W b v xs := by
  obtain ⟨hl, h⟩ := h
  refine ⟨hl, ?_⟩
  rcases h with h | ⟨k, cap, cur, e, hk, hc, r⟩
  · exact .inl h
  · exact .inr ⟨k, cap, cur, e, hk, (World.grownBy.block hb k (Array.getElem?_eq_some_iff.1 hc).1 (by simp; omega)).trans hc, r⟩
theorem Bw.kp {W a b : World} {g : Nat} (h : Bw W a) (hg : W.heap.size ≤ g) (hb : Kp g a b) : Bw W b :=
  Below.grown h hb h.size (by intro k hk; simp at hk; omega)
theorem Own.setOther {V w : World} {g k : Nat} {u n : Value} {ys : List Int} (h : Own V w u ys) (hg : g < V.heap.size) : Own V (w.setCell ⟨g, k, none⟩ n) u ys :=
  h.kp hg ((Kp.refl g w).setCell n)
def roomed (L : List Int) (k : Nat) : List Int := List.replicate k (-77) ++ L.drop k
theorem roomed_len {L : List Int} {k : Nat} (h : k ≤ L.length) : (roomed L k).length = L.length := by simp [roomed]; omega
theorem roomed_set {L : List Int} {k : Nat} (h : k < L.length) : (roomed L k).set k (-77) = roomed L (k + 1) := by
  unfold roomed
  rw [List.set_append_right _ _ (by simp)]
  simp only [List.length_replicate, Nat.sub_self]
  rw [List.drop_eq_getElem_cons h, List.set_cons_zero, List.replicate_succ', List.append_assoc]
  rfl
theorem roomed_all (L : List Int) : roomed L L.length = List.replicate L.length (-77) := by simp [roomed]
theorem nth_replicate {n j : Nat} (h : j < n) : nth (List.replicate n (-77)) j = -77 := by rw [nth_lt (by simpa using h)]; simp
theorem ints_src {w : World} {xs : List Int} {b off : Nat} (hc : ∀ j, j < xs.length → w.cell? ⟨b, off + j, none⟩ = some (.int .i64 (nth xs j))) : ∀ j u, (xs.map (Value.int .i64))[j]? = some u → w.cell? ((⟨b, off, none⟩ : Addr).add j) = some u := by
  intro j u hj
  have hjl : j < xs.length := by
    by_cases hjl : j < xs.length
    · exact hjl
    · rw [List.getElem?_eq_none (by simp; omega)] at hj; cases hj
  rw [List.getElem?_map, List.getElem?_eq_getElem hjl, Option.map_some, Option.some_inj] at hj
  subst hj
  rw [← nth_lt hjl]
  exact add_cell (hc j hjl)
theorem own_copied {W w : World} {L : List Int} (h : w.heap[W.heap.size]? = some (.cells (L.map (Value.int .i64) ++ (madeCells #[.int .i64 0] L.length).toList.drop (L.map (Value.int .i64)).length).toArray 3 (0, 0))) (hl : L.length ≤ maxLen) :
    Own W w (.slice (some ⟨W.heap.size, 0, none⟩) L.length L.length) L := by
  refine ⟨by simp, .inr ⟨W.heap.size, L.length, _, rfl, Nat.le_refl _, h, Nat.le_refl _, hl, by simp [size_madeCells], ?_⟩⟩
  simp
theorem Own.ints {W w : World} {ad : Option Addr} {n cap : Nat} {xs : List Int} (h : Own W w (.slice ad n cap) xs) : IntsAt w ad xs ∧ n = xs.length := by
  obtain ⟨ad', c', e, hx, _⟩ := h.form
  simp at e
  obtain ⟨rfl, rfl, _⟩ := e
  exact ⟨hx, rfl⟩
/-- All places of a slice hold what a caller has behind its own. -/
def RoomAt (w : World) (ad : Option Addr) (n : Nat) : Prop :=
  ∀ i, i < n → ∃ b off, ad = some ⟨b, off, none⟩ ∧ b < w.heap.size ∧ w.cell? ⟨b, off + i, none⟩ = some (.int .i64 (-77))
theorem nth_snoc {R : List Int} (h : ∀ j, j < R.length → nth R j = -77) : ∀ j, j < (R ++ [-77]).length → nth (R ++ [-77]) j = -77 := by
  intro j hj
  rw [nth_lt hj]
  by_cases e : j < R.length
  · rw [List.getElem_append_left e, ← nth_lt e]; exact h j e
  · simp at hj
    have : j = R.length := by omega
    subst this
    simp
theorem Own.room {W w : World} {ad : Option Addr} {n cap : Nat} {xs : List Int} (h : Own W w (.slice ad n cap) xs) (ha : ∀ j, j < xs.length → nth xs j = -77) : RoomAt w ad n := by
  obtain ⟨hx, rfl⟩ := h.ints
  intro i hi
  obtain ⟨b, off, e, hb, hc⟩ := hx i hi
  exact ⟨b, off, e, hb, by rw [hc i hi, ha i hi]⟩
theorem RoomAt.bw {w w' : World} {ad : Option Addr} {n : Nat} (h : RoomAt w ad n) (hb : Bw w w') : RoomAt w' ad n := by
  intro i hi
  obtain ⟨b, off, e, hlt, hc⟩ := h i hi
  exact ⟨b, off, e, Nat.lt_of_lt_of_le hlt hb.size, ((bcell hb).1 _ _ hlt).trans hc⟩
theorem len_snoc (R : List Int) (n : Int) : (R ++ [n]).length = R.length + 1 := by simp
end Go.Proofs.Ytfemleimkbjehaa
