import Derived.Test.YtfemleimkbjehaaJ39
import Derived.BigQuiet
import Derived.Test.YtfemleimkbjehaaYC
import Derived.Test.YtfemleimkbjehaaJ36
set_option maxRecDepth 1000000
set_option maxHeartbeats 40000000
set_option linter.unusedVariables false
set_option linter.unusedSimpArgs false
namespace Go.Proofs.Ytfemleimkbjehaa
open Go.RowKit
theorem nodesAt_own {w : World} {base : Nat} {ty : TypeId} {v : Value} {A : List Nd} (h : w.ownsRow base ty 5 v A.length (qM A)) : NodesAt w (yQ v) A := by
  intro i hi
  obtain ⟨g, e, hl, hc⟩ := vT h (by omega)
  refine ⟨g, 0, e, hl, fun j hj => ?_⟩
  have q : ∀ f, f < 5 → ∀ u, (Nd.cells (qV A j))[f]? = some u → w.cell? ⟨g, 0 + j * 5 + f, none⟩ = some u := fun f hf u hu => by
    rw [Nat.zero_add]
    exact hc _ _ ((mW (f := Nd.cells) (d := ⟨0, 0, 0, 0, 0⟩) (fun _ => rfl) A j hj f hf).trans hu)
  exact ⟨q 0 (by omega) _ rfl, q 1 (by omega) _ rfl, q 2 (by omega) _ rfl, q 3 (by omega) _ rfl, q 4 (by omega) _ rfl⟩
def DnF (ns : List Nd) (gs : List Gv) (R : Nat) (P : Nat → Nat → Nat → Prop) (lv : Nat → Nat → Nat → Value) (F : Nat → Nat → Nat → List Int) : Prop := ∀ e s n, e < 6 → s < R → n < ns.length → (P e s n → F e s n = rD ns gs e s n) ∧ (¬ P e s n → F e s n = [] ∧ lv e s n = .slice none 0 0)
theorem DnF.mono {ns : List Nd} {gs : List Gv} {R : Nat} {P P' : Nat → Nat → Nat → Prop} {lv : Nat → Nat → Nat → Value} {F : Nat → Nat → Nat → List Int} (h : DnF ns gs R P lv F) (hp : ∀ e s n, e < 6 → s < R → n < ns.length → (P' e s n ↔ P e s n)) : DnF ns gs R P' lv F := fun e s n he hs hn => by
  rw [hp e s n he hs hn]; exact h e s n he hs hn
theorem DnF.put {ns : List Nd} {gs : List Gv} {R e s n : Nat} {P P' : Nat → Nat → Nat → Prop} {lv : Nat → Nat → Nat → Value} {F : Nat → Nat → Nat → List Int} (h : DnF ns gs R P lv F) (v : Value) (hk : (qV ns n).kind = 7) (hp : ∀ e' s' n', e' < 6 → s' < R → n' < ns.length → (P' e' s' n' ↔ (P e' s' n' ∨ (e' = e ∧ s' = s ∧ n' = n)))) : DnF ns gs R P' (updV lv e s n v) (wR F e s n (dT ns gs n e s)) := fun e' s' n' he hs hn => by
  rw [hp e' s' n' he hs hn]
  by_cases q : e' = e ∧ s' = s ∧ n' = n
  · obtain ⟨rfl, rfl, rfl⟩ := q
    exact ⟨fun _ => by rw [yY, sinkF_7 gs e' s' hk], fun hh => absurd (.inr ⟨rfl, rfl, rfl⟩) hh⟩
  · rw [jY _ _ q, uK _ _ q]
    obtain ⟨h1, h2⟩ := h e' s' n' he hs hn
    exact ⟨fun hh => h1 (hh.resolve_right q), fun hh => h2 fun x => hh (.inl x)⟩
theorem DnF.skip {ns : List Nd} {gs : List Gv} {R n : Nat} {P P' : Nat → Nat → Nat → Prop} {lv : Nat → Nat → Nat → Value} {F : Nat → Nat → Nat → List Int} (h : DnF ns gs R P lv F) (hp : ∀ e' s' n', e' < 6 → s' < R → n' < ns.length → n' ≠ n → (P' e' s' n' ↔ P e' s' n')) (hk : (∀ e' s', e' < 6 → s' < R → P e' s' n) ∨ (qV ns n).kind ≠ 7) (hn' : ∀ e' s', e' < 6 → s' < R → P' e' s' n) : DnF ns gs R P' lv F := fun e' s' n' he hs hn => by
  obtain ⟨h1, h2⟩ := h e' s' n' he hs hn
  by_cases q : n' = n
  · subst q
    refine ⟨fun _ => ?_, fun hh => absurd (hn' e' s' he hs) hh⟩
    rcases hk with hk | hk
    · exact h1 (hk e' s' he hs)
    · have hz : rD ns gs e' s' n' = [] := by unfold rD; rw [if_neg (by simpa using hk)]
      by_cases hP : P e' s' n'
      · exact h1 hP
      · rw [hz]; exact (h2 hP).1
  · rw [hp e' s' n' he hs hn q]; exact ⟨h1, h2⟩
theorem RL.reads {V W1 w : World} {t I O : Tb} {L R fb n e s : Nat} {lv : Nat → Nat → Nat → Value} {F FI : Nat → Nat → Nat → List Int} (h : RL W1 w t L R lv F) (hT : TF V w I L R FI) (hlt : ∀ n e, n < L → e < 6 → I.rb n e < W1.heap.size) (hf : w.heap[fb]? = some (.cells #[I.val L, O.val L] 62 (0, 0))) (hn : n < L) (he : e < 6) (hs : s < R) :
    ∃ la lc, Own V w (.slice la (FI e s n).length lc) (FI e s n) ∧ (t.ob < w.heap.size ∧ t.tb n < w.heap.size ∧ t.rb n e < w.heap.size ∧ I.ob < w.heap.size ∧ I.tb n < w.heap.size ∧ I.rb n e < w.heap.size ∧ fb < w.heap.size) ∧ (w.cell? ⟨fb, 0, none⟩ = some (.slice (some ⟨I.ob, 0, none⟩) L I.oc) ∧ w.cell? ⟨t.ob, n, none⟩ = some (.slice (some ⟨t.tb n, 0, none⟩) 6 (t.tc n)) ∧ w.cell? ⟨t.tb n, e, none⟩ = some (.slice (some ⟨t.rb n e, 0, none⟩) R R) ∧ w.cell? ⟨I.ob, n, none⟩ = some (.slice (some ⟨I.tb n, 0, none⟩) 6 (I.tc n)) ∧ w.cell? ⟨I.tb n, e, none⟩ = some (.slice (some ⟨I.rb n e, 0, none⟩) R R) ∧ w.cell? ⟨I.rb n e, s, none⟩ = some (.slice la (FI e s n).length lc)) ∧ ∀ w7, Bw w w7 → (w7.cell? ⟨fb, 0, none⟩ = some (.slice (some ⟨I.ob, 0, none⟩) L I.oc) ∧ w7.cell? ⟨t.ob, n, none⟩ = some (.slice (some ⟨t.tb n, 0, none⟩) 6 (t.tc n)) ∧ w7.cell? ⟨t.tb n, e, none⟩ = some (.slice (some ⟨t.rb n e, 0, none⟩) R R) ∧ w7.cell? ⟨I.ob, n, none⟩ = some (.slice (some ⟨I.tb n, 0, none⟩) 6 (I.tc n)) ∧ w7.cell? ⟨I.tb n, e, none⟩ = some (.slice (some ⟨I.rb n e, 0, none⟩) R R) ∧ w7.cell? ⟨I.rb n e, s, none⟩ = some (.slice la (FI e s n).length lc)) ∧ w7.cell? ⟨t.rb n e, s, none⟩ = some (lv e s n) ∧ w7.frozen? ⟨t.rb n e, s, none⟩ = false ∧ ∀ u, (w7.setCell ⟨t.rb n e, s, none⟩ u).cell? ⟨fb, 0, none⟩ = some (.slice (some ⟨I.ob, 0, none⟩) L I.oc) ∧ (w7.setCell ⟨t.rb n e, s, none⟩ u).cell? ⟨t.ob, n, none⟩ = some (.slice (some ⟨t.tb n, 0, none⟩) 6 (t.tc n)) ∧ (w7.setCell ⟨t.rb n e, s, none⟩ u).cell? ⟨t.tb n, e, none⟩ = some (.slice (some ⟨t.rb n e, 0, none⟩) R R) ∧ (w7.setCell ⟨t.rb n e, s, none⟩ u).cell? ⟨I.ob, n, none⟩ = some (.slice (some ⟨I.tb n, 0, none⟩) 6 (I.tc n)) ∧ (w7.setCell ⟨t.rb n e, s, none⟩ u).cell? ⟨I.tb n, e, none⟩ = some (.slice (some ⟨I.rb n e, 0, none⟩) R R) ∧ (w7.setCell ⟨t.rb n e, s, none⟩ u).cell? ⟨I.rb n e, s, none⟩ = some (.slice la (FI e s n).length lc) := by
  obtain ⟨i1, i2, ⟨la, lc, i3, fo, _⟩, j1, j2, j3, _⟩ := hT.get hn he hs
  obtain ⟨o1, o2, o3, p1, p2, p3, p4⟩ := h.tab.get hn he hs
  have fbl := (Array.getElem?_eq_some_iff.1 hf).1
  have key : ∀ w7, Bw w w7 → w7.cell? ⟨fb, 0, none⟩ = some (.slice (some ⟨I.ob, 0, none⟩) L I.oc) ∧ w7.cell? ⟨t.ob, n, none⟩ = some (.slice (some ⟨t.tb n, 0, none⟩) 6 (t.tc n)) ∧ w7.cell? ⟨t.tb n, e, none⟩ = some (.slice (some ⟨t.rb n e, 0, none⟩) R R) ∧ w7.cell? ⟨I.ob, n, none⟩ = some (.slice (some ⟨I.tb n, 0, none⟩) 6 (I.tc n)) ∧ w7.cell? ⟨I.tb n, e, none⟩ = some (.slice (some ⟨I.rb n e, 0, none⟩) R R) ∧ w7.cell? ⟨I.rb n e, s, none⟩ = some (.slice la (FI e s n).length lc) := fun w7 hb => ⟨((qX hb).1 _ _ fbl).trans (qQ hf rfl), ((qX hb).1 _ _ p1).trans o1, ((qX hb).1 _ _ p2).trans o2, ((qX hb).1 _ _ j1).trans i1, ((qX hb).1 _ _ j2).trans i2, ((qX hb).1 _ _ j3).trans i3⟩
  refine ⟨la, lc, fo, ⟨p1, p2, p3, j1, j2, j3, fbl⟩, key w (Bw.refl _), fun w7 hb => ?_⟩
  obtain ⟨ar, hr, _⟩ := (h.tab.bw hb).rows n hn e he
  obtain ⟨a1, q1, q2⟩ := (h.tab.bw hb).out
  obtain ⟨a2, q3, q4⟩ := (h.tab.bw hb).times n hn
  obtain ⟨a3, q5, q6⟩ := (hT.bw hb).out
  obtain ⟨a4, q7, q8⟩ := (hT.bw hb).times n hn
  have hf7 := (Below.block hb _ fbl).trans hf
  have hne : I.rb n e ≠ t.rb n e := fun eq => by have := hlt n e hn he; have := h.low n e hn he; omega
  refine ⟨key w7 hb, ((qX hb).1 _ _ p3).trans o3, qZ hr, fun u => ⟨qQ (qU hr hf7 (by decide)) rfl, qQ (qU hr q1 (by decide)) (q2 n hn), qQ (qU hr q3 (by decide)) (q4 e he), qQ (qU hr q5 (by decide)) (q6 n hn), qQ (qU hr q7 (by decide)) (q8 e he), ?_⟩⟩
  exact (World.cell?_of_block (a := ⟨I.rb n e, s, none⟩) (Below.heap_setCell w7 ⟨t.rb n e, s, none⟩ u _ hne)).trans (key w7 hb).2.2.2.2.2
theorem RL.reads2 {W1 w : World} {t : Tb} {L R xb n e s : Nat} {a v : Int} {lv : Nat → Nat → Nat → Value} {F : Nat → Nat → Nat → List Int} (h : RL W1 w t L R lv F) (hx : w.heap[xb]? = some (.cells #[.int .i64 (n : Int), .int .i64 a, .int .i64 (e : Int), .int .i64 (s : Int), .int .i64 v] 110 (0, 0))) (hn : n < L) (he : e < 6) (hs : s < R) :
    (xb < w.heap.size ∧ t.ob < w.heap.size ∧ t.tb n < w.heap.size ∧ t.rb n e < w.heap.size) ∧ (w.cell? ⟨xb, 0, none⟩ = some (.int .i64 (n : Int)) ∧ w.cell? ⟨xb, 2, none⟩ = some (.int .i64 (e : Int)) ∧ w.cell? ⟨xb, 3, none⟩ = some (.int .i64 (s : Int)) ∧ w.cell? ⟨t.ob, n, none⟩ = some (.slice (some ⟨t.tb n, 0, none⟩) 6 (t.tc n)) ∧ w.cell? ⟨t.tb n, e, none⟩ = some (.slice (some ⟨t.rb n e, 0, none⟩) R R)) ∧ w.cell? ⟨t.rb n e, s, none⟩ = some (lv e s n) ∧ w.frozen? ⟨t.rb n e, s, none⟩ = false ∧ ∀ u, (w.setCell ⟨t.rb n e, s, none⟩ u).cell? ⟨xb, 0, none⟩ = some (.int .i64 (n : Int)) ∧ (w.setCell ⟨t.rb n e, s, none⟩ u).cell? ⟨xb, 2, none⟩ = some (.int .i64 (e : Int)) ∧ (w.setCell ⟨t.rb n e, s, none⟩ u).cell? ⟨xb, 3, none⟩ = some (.int .i64 (s : Int)) ∧ (w.setCell ⟨t.rb n e, s, none⟩ u).cell? ⟨t.ob, n, none⟩ = some (.slice (some ⟨t.tb n, 0, none⟩) 6 (t.tc n)) ∧ (w.setCell ⟨t.rb n e, s, none⟩ u).cell? ⟨t.tb n, e, none⟩ = some (.slice (some ⟨t.rb n e, 0, none⟩) R R) := by
  obtain ⟨o1, o2, o3, p1, p2, p3, p4⟩ := h.tab.get hn he hs
  obtain ⟨ar, hr, _⟩ := h.tab.rows n hn e he
  obtain ⟨a1, q1, q2⟩ := h.tab.out
  obtain ⟨a2, q3, q4⟩ := h.tab.times n hn
  exact ⟨⟨(Array.getElem?_eq_some_iff.1 hx).1, p1, p2, p3⟩, ⟨qQ hx rfl, qQ hx rfl, qQ hx rfl, o1, o2⟩, o3, p4, fun u => ⟨qQ (qU hr hx (by decide)) rfl, qQ (qU hr hx (by decide)) rfl, qQ (qU hr hx (by decide)) rfl, qQ (qU hr q1 (by decide)) (q2 n hn), qQ (qU hr q3 (by decide)) (q4 e he)⟩⟩
theorem T4.tf {W w : World} {t : Tb} {L R : Nat} {lv : Nat → Nat → Nat → Value} {F : Nat → Nat → Nat → List Int} (h : T4 w t.ob L R t.oc t.tb t.tc t.rb lv) (ho : ∀ e s n, e < 6 → s < R → n < L → Own W w (lv e s n) (F e s n)) (hl : ∀ n e, n < L → e < 6 → W.heap.size ≤ t.rb n e) : TF W w t L R F :=
  ⟨h.out, h.times, fun n hn e he => by
    obtain ⟨arr, h1, h2, h3⟩ := h.rows n hn e he
    exact ⟨arr, h1, h2, fun s hs => ⟨_, h3 s hs, ho e s n he hs hn⟩⟩, h.inj, hl⟩
def Dn (e s e' s' : Nat) : Prop := e' < e ∨ (e' = e ∧ s' < s)
structure FlS (ns : List Nd) (gs : List Gv) (R e s : Nat) (FI FO : Nat → Nat → Nat → List Int) : Prop where
  inn : ∀ e' s' n, e' < 6 → s' < R → n < ns.length → (qV ns n).kind ≠ 0 → Dn e s e' s' → FI e' s' n = kK (qV ns n) (zL ns gs e' s')
  own : ∀ e' s' n, n < ns.length → (qV ns n).kind = 0 → FI e' s' n = []
  src : ∀ e' s' n, n < ns.length → (qV ns n).kind = 0 → FO e' s' n = bU gs n e' s'
  nil : ∀ e' s' n, n < ns.length → (qV ns n).kind ≠ 0 → ¬ Dn e s e' s' → FO e' s' n = []
theorem FlS.start (ns : List Nd) (gs : List Gv) (R : Nat) : FlS ns gs R 0 0 (fun _ _ _ => []) (fun e s n => if (qV ns n).kind = 0 then bU gs n e s else []) :=
  ⟨fun e' s' n _ _ _ _ h => by unfold Dn at h; omega, fun _ _ _ _ _ => rfl, fun e s n _ h => if_pos h, fun e s n _ h _ => if_neg h⟩
structure FlB (ns : List Nd) (gs : List Gv) (R e s m : Nat) (FI FO : Nat → Nat → Nat → List Int) : Prop where
  inn : ∀ e' s' n, e' < 6 → s' < R → n < ns.length → (qV ns n).kind ≠ 0 → Dn e s e' s' → FI e' s' n = kK (qV ns n) (zL ns gs e' s')
  own : ∀ e' s' n, n < ns.length → (qV ns n).kind = 0 → FI e' s' n = []
  src : ∀ e' s' n, n < ns.length → (qV ns n).kind = 0 → FO e' s' n = bU gs n e' s'
  nil : ∀ e' s' n, n < ns.length → (qV ns n).kind ≠ 0 → ¬ Dn e s e' s' → ¬ (e' = e ∧ s' = s ∧ (qV ns n).kind = 4 ∧ n < m) → FO e' s' n = []
  bk : ∀ n, n < m → n < ns.length → (qV ns n).kind = 4 → FO e s n = zL ns gs e s n
theorem FlS.backs {ns : List Nd} {gs : List Gv} {R e s : Nat} {FI FO : Nat → Nat → Nat → List Int} (h : FlS ns gs R e s FI FO) : FlB ns gs R e s 0 FI FO := ⟨h.inn, h.own, h.src, fun e' s' n hn hk hd _ => h.nil e' s' n hn hk hd, fun n h => absurd h (Nat.not_lt_zero _)⟩
theorem Good.back {ns : List Nd} {r : Int} {q : List Int} (h : Good ns r q) (gs : List Gv) (e s : Nat) {n : Nat} (hn : n < ns.length) (h4 : (qV ns n).kind = 4) : zL ns gs e s n = kK (qV ns n) (hY (zL ns gs e) s) := by
  conv => lhs; rw [h.val_fix gs e s hn]
  unfold fG
  rw [if_neg (by simp [h4]), if_pos (by simp [h4])]
theorem FlB.skip {ns : List Nd} {r : Int} {q : List Int} (hG : Good ns r q) {gs : List Gv} {R e s m : Nat} {FI FO : Nat → Nat → Nat → List Int} (h : FlB ns gs R e s m FI FO) (hm : m < ns.length) (hk : (qV ns m).kind ≠ 4 ∨ s = 0) : FlB ns gs R e s (m + 1) FI FO := by
  have hz : (qV ns m).kind = 4 → FO e s m = [] ∧ zL ns gs e s m = [] := fun h4 => by
    have hs : s = 0 := hk.resolve_left fun h' => h' h4
    refine ⟨h.nil e s m hm (by omega) (by unfold Dn; omega) (by omega), ?_⟩
    rw [hG.back gs e s hm h4, hs]
    unfold kK
    rw [List.flatMap_eq_nil_iff]
    intro z _; rfl
  refine ⟨h.inn, h.own, h.src, fun e' s' n hn hk' hd hne => ?_, fun n hn hnl h4 => ?_⟩
  · exact h.nil e' s' n hn hk' hd (fun hh => hne ⟨hh.1, hh.2.1, hh.2.2.1, by omega⟩)
  · by_cases e1 : n = m
    · subst e1; rw [(hz h4).1, (hz h4).2]
    · exact h.bk n (by omega) hnl h4
theorem FlB.set {ns : List Nd} {r : Int} {q : List Int} (hG : Good ns r q) {gs : List Gv} {R e s m : Nat} {FI FO : Nat → Nat → Nat → List Int} (h : FlB ns gs R e (s + 1) m FI FO) (he : e < 6) (hs : s + 1 < R) (hm : m < ns.length) (h4 : (qV ns m).kind = 4) : FlB ns gs R e (s + 1) (m + 1) FI (wR FO e (s + 1) m (FI e s m)) := by
  have hv : FI e s m = zL ns gs e (s + 1) m := by
    rw [hG.back gs e (s + 1) hm h4, h.inn e s m he (by omega) hm (by omega) (by unfold Dn; omega)]; rfl
  refine ⟨h.inn, h.own, fun e' s' n hn h0 => ?_, fun e' s' n hn hk' hd hne => ?_, fun n hn hnl h4' => ?_⟩
  · rw [jY _ _ (fun hh => by rw [hh.2.2] at h0; omega)]; exact h.src e' s' n hn h0
  · by_cases hh : e' = e ∧ s' = s + 1 ∧ n = m
    · exact absurd ⟨hh.1, hh.2.1, by rw [hh.2.2]; exact h4, by omega⟩ hne
    · rw [jY _ _ hh]
      exact h.nil e' s' n hn hk' hd (fun h' => hne ⟨h'.1, h'.2.1, h'.2.2.1, by omega⟩)
  · by_cases e1 : n = m
    · subst e1; rw [yY]; exact hv
    · rw [jY _ _ (fun hh => e1 hh.2.2)]; exact h.bk n (by omega) hnl h4'
structure FlP (ns : List Nd) (gs : List Gv) (R e s j : Nat) (FI FO : Nat → Nat → Nat → List Int) : Prop where
  inn : ∀ e' s' n, e' < 6 → s' < R → n < ns.length → (qV ns n).kind ≠ 0 → Dn e s e' s' → FI e' s' n = kK (qV ns n) (zL ns gs e' s')
  own : ∀ e' s' n, n < ns.length → (qV ns n).kind = 0 → FI e' s' n = []
  src : ∀ e' s' n, n < ns.length → (qV ns n).kind = 0 → FO e' s' n = bU gs n e' s'
  nil : ∀ e' s' n, n < ns.length → (qV ns n).kind ≠ 0 → ¬ Dn e s e' s' → ¬ (e' = e ∧ s' = s) → FO e' s' n = []
  sb : ∀ n, n < ns.length → (qV ns n).kind = 0 ∨ (qV ns n).kind = 4 → FO e s n = zL ns gs e s n
  all : 1 ≤ j → ∀ n, n < ns.length → (qV ns n).kind ≠ 7 → FO e s n = zL ns gs e s n
  now : 1 ≤ j → ∀ n, n < ns.length → (qV ns n).kind ≠ 0 → (qV ns n).kind ≠ 4 ∨ 2 ≤ j → FI e s n = kK (qV ns n) (zL ns gs e s)
  few : ∀ n, n < ns.length → (FO e s n).length ≤ 100000
theorem FlB.pass {ns : List Nd} {r : Int} {q : List Int} (hG : Good ns r q) {gs : List Gv} (hg : nD ns gs) {R e s : Nat} {FI FO : Nat → Nat → Nat → List Int} (hs : s ≤ 3) (h : FlB ns gs R e s ns.length FI FO) : FlP ns gs R e s 0 FI FO := by
  have sb : ∀ n, n < ns.length → (qV ns n).kind = 0 ∨ (qV ns n).kind = 4 → FO e s n = zL ns gs e s n := fun n hn hk => by
    rcases hk with hk | hk
    · rw [h.src e s n hn hk, hG.src gs e s hn hk]
    · exact h.bk n hn hn hk
  refine ⟨h.inn, h.own, h.src, fun e' s' n hn hk hd hne => h.nil e' s' n hn hk hd (fun hh => hne ⟨hh.1, hh.2.1⟩), sb, fun h => by omega, fun h => by omega, fun n hn => ?_⟩
  by_cases hk : (qV ns n).kind = 0 ∨ (qV ns n).kind = 4
  · rw [sb n hn hk]; have := hG.val_len hg e hs hn; omega
  · rw [h.nil e s n hn (by omega) (by unfold Dn; omega) (by omega)]; simp
theorem FlP.next {ns : List Nd} {gs : List Gv} {R e s j : Nat} {FI FO FI' FO' : Nat → Nat → Nat → List Int} (h : FlP ns gs R e s j FI FO) (hr : RdOk ns gs e s (1 ≤ j) ns.length FI FO FI' FO') : FlP ns gs R e s (j + 1) FI' FO' := by
  have oth := hr.oth
  refine ⟨fun e' s' n he hs hn hk hd => ?_, fun e' s' n hn hk => ?_, fun e' s' n hn hk => ?_, fun e' s' n hn hk hd hne => ?_, fun n hn hk => hr.out n hn (by omega) (.inl hn), fun _ n hn h7 => hr.out n hn h7 (.inl hn), fun _ n hn hk h4 => hr.inn n hn hk (h4.imp id fun h => by omega), hr.few⟩
  · rw [(oth e' s' n (by unfold Dn at hd; omega)).1]; exact h.inn e' s' n he hs hn hk hd
  · by_cases hh : e' = e ∧ s' = s
    · rw [hh.1, hh.2, hr.own n hn hk]; exact h.own e s n hn hk
    · rw [(oth e' s' n hh).1]; exact h.own e' s' n hn hk
  · by_cases hh : e' = e ∧ s' = s
    · rw [hh.1, hh.2, hr.out n hn (by omega) (.inl hn), ← h.src e s n hn hk, h.sb n hn (.inl hk)]
    · rw [(oth e' s' n hh).2]; exact h.src e' s' n hn hk
  · rw [(oth e' s' n hne).2]; exact h.nil e' s' n hn hk hd hne
theorem FlP.done {ns : List Nd} {gs : List Gv} {R e s : Nat} {FI FO : Nat → Nat → Nat → List Int} (h : FlP ns gs R e s ns.length FI FO) (h1 : 1 ≤ ns.length) (h0 : (qV ns 0).kind = 0) : FlS ns gs R e (s + 1) FI FO := by
  refine ⟨fun e' s' n he hs hn hk hd => ?_, h.own, h.src, fun e' s' n hn hk hd => h.nil e' s' n hn hk (by unfold Dn at *; omega) (by unfold Dn at hd; omega)⟩
  by_cases hh : e' = e ∧ s' = s
  · rw [hh.1, hh.2]
    refine h.now h1 n hn hk ?_
    by_cases h2 : 2 ≤ ns.length
    · exact .inr h2
    · have : n = 0 := by omega
      subst this; exact absurd h0 hk
  · exact h.inn e' s' n he hs hn hk (by unfold Dn at *; omega)
theorem FlS.turn {ns : List Nd} {gs : List Gv} {R e : Nat} {FI FO : Nat → Nat → Nat → List Int} (h : FlS ns gs R e R FI FO) : FlS ns gs R (e + 1) 0 FI FO :=
  ⟨fun e' s' n he hs hn hk hd => h.inn e' s' n he hs hn hk (by unfold Dn at *; omega), h.own, h.src, fun e' s' n hn' hk hd => h.nil e' s' n hn' hk (by unfold Dn at *; omega)⟩
theorem FlS.final {ns : List Nd} {gs : List Gv} {R : Nat} {FI FO : Nat → Nat → Nat → List Int} (h : FlS ns gs R 6 0 FI FO) : ∀ e s n, e < 6 → s < R → n < ns.length → FI e s n = dT ns gs n e s := by
  intro e s n he hs hn
  unfold dT
  by_cases hk : (qV ns n).kind = 0
  · rw [if_pos (by simpa using hk)]; exact h.own e s n hn hk
  · rw [if_neg (by simpa using hk)]; exact h.inn e s n he hs hn hk (by unfold Dn; omega)
end Go.Proofs.Ytfemleimkbjehaa
