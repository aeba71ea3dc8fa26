import Derived.Test.YtfemleimkbjehaaJ6
import Derived.Test.YtfemleimkbjehaaKN
import Derived.Test.YtfemleimkbjehaaJ8
import Derived.Deep.RegionHeld3
import Derived.Deep.RegionLaw
set_option maxRecDepth 1000000
set_option maxHeartbeats 40000000
set_option linter.unusedVariables false
set_option linter.unusedSimpArgs false
namespace Go.Proofs.Ytfemleimkbjehaa
open Go.RowKit
structure Tb where
  ob : Nat
  oc : Nat
  tb : Nat → Nat
  tc : Nat → Nat
  rb : Nat → Nat → Nat
def Tb.val (t : Tb) (L : Nat) : Value := .slice (some ⟨t.ob, 0, none⟩) L t.oc
structure TF (W w : World) (t : Tb) (L R : Nat) (F : Nat → Nat → Nat → List Int) : Prop where
  out : ∃ arr : Array Value, w.heap[t.ob]? = some (.cells arr 108 (0, 0)) ∧ ∀ n, n < L → arr[n]? = some (.slice (some ⟨t.tb n, 0, none⟩) 6 (t.tc n))
  times : ∀ n, n < L → ∃ arr : Array Value, w.heap[t.tb n]? = some (.cells arr 54 (0, 0)) ∧ ∀ e, e < 6 → arr[e]? = some (.slice (some ⟨t.rb n e, 0, none⟩) R R)
  rows : ∀ n, n < L → ∀ e, e < 6 → RowAt W w (t.rb n e) R (fun s => F e s n)
  inj : ∀ n e n' e', n < L → e < 6 → n' < L → e' < 6 → t.rb n e = t.rb n' e' → n = n' ∧ e = e'
  low : ∀ n e, n < L → e < 6 → W.heap.size ≤ t.rb n e
theorem TF.bw {W w w' : World} {t : Tb} {L R : Nat} {F : Nat → Nat → Nat → List Int} (h : TF W w t L R F) (hb : Bw w w') : TF W w' t L R F := by
  have key : ∀ g o, w.heap[g]? = some o → w'.heap[g]? = some o := fun g o hg => (Below.block hb g (Array.getElem?_eq_some_iff.1 hg).1).trans hg
  refine ⟨?_, fun n hn => ?_, fun n hn e he => (h.rows n hn e he).bw hb, h.inj, h.low⟩
  · obtain ⟨arr, h1, h2⟩ := h.out; exact ⟨arr, key _ _ h1, h2⟩
  · obtain ⟨arr, h1, h2⟩ := h.times n hn; exact ⟨arr, key _ _ h1, h2⟩
theorem TF.weaken {V W w : World} {t : Tb} {L R : Nat} {F : Nat → Nat → Nat → List Int} (h : TF W w t L R F) (hb : Bw V W) : TF V w t L R F :=
  ⟨h.out, h.times, fun n hn e he => (h.rows n hn e he).weaken hb, h.inj, fun n e hn he => Nat.le_trans hb.size (h.low n e hn he)⟩
theorem TF.get {W w : World} {t : Tb} {L R : Nat} {F : Nat → Nat → Nat → List Int} (h : TF W w t L R F) {n e s : Nat} (hn : n < L) (he : e < 6) (hs : s < R) :
    w.cell? ⟨t.ob, n, none⟩ = some (.slice (some ⟨t.tb n, 0, none⟩) 6 (t.tc n)) ∧ w.cell? ⟨t.tb n, e, none⟩ = some (.slice (some ⟨t.rb n e, 0, none⟩) R R) ∧
      (∃ la lc, w.cell? ⟨t.rb n e, s, none⟩ = some (.slice la (F e s n).length lc) ∧ Own W w (.slice la (F e s n).length lc) (F e s n) ∧ (F e s n).length ≤ lc) ∧ t.ob < w.heap.size ∧ t.tb n < w.heap.size ∧ t.rb n e < w.heap.size ∧ w.frozen? ⟨t.rb n e, s, none⟩ = false := by
  obtain ⟨a1, o1, o2⟩ := h.out
  obtain ⟨a2, t1, t2⟩ := h.times n hn
  have hr := h.rows n hn e he
  exact ⟨qQ o1 (o2 n hn), qQ t1 (t2 e he), hr.get hs, (Array.getElem?_eq_some_iff.1 o1).1, (Array.getElem?_eq_some_iff.1 t1).1, hr.lt, hr.fr s⟩
theorem TF.set {W w : World} {t : Tb} {L R : Nat} {F : Nat → Nat → Nat → List Int} (h : TF W w t L R F) {n e s : Nat} (hn : n < L) (he : e < 6) {v : Value} {l : List Int} (ho : Own W w v l) :
    TF W (w.setCell ⟨t.rb n e, s, none⟩ v) t L R (wR F e s n l) := by
  have hr := h.rows n hn e he
  have key : ∀ (g : Nat) (arr : Array Value) (ty : TypeId), w.heap[g]? = some (Obj.cells arr ty (0, 0)) → ty ≠ 26 → (w.setCell ⟨t.rb n e, s, none⟩ v).heap[g]? = some (Obj.cells arr ty (0, 0)) := by
    intro g arr ty hg ht
    obtain ⟨a2, r1, _⟩ := hr
    exact qU r1 hg ht
  refine ⟨?_, fun m hm => ?_, fun m hm e' he' => ?_, h.inj, h.low⟩
  · obtain ⟨arr, h1, h2⟩ := h.out; exact ⟨arr, key _ _ _ h1 (by decide), h2⟩
  · obtain ⟨arr, h1, h2⟩ := h.times m hm; exact ⟨arr, key _ _ _ h1 (by decide), h2⟩
  · by_cases e1 : m = n ∧ e' = e
    · obtain ⟨rfl, rfl⟩ := e1
      have := hr.set (j := s) ho
      refine (?_ : (fun s' => wR F e' s m l e' s' m) = upd (fun s => F e' s m) s l) ▸ this
      funext s'
      by_cases e2 : s' = s
      · subst e2; rw [yY, upd_eq]
      · rw [jY _ _ (by omega), upd_ne _ _ e2]
    · have hne : t.rb m e' ≠ t.rb n e := fun eq => e1 (h.inj m e' n e hm he' hn he eq)
      have := (h.rows m hm e' he').setOther (k := s) (u := v) hr hne
      refine (?_ : (fun s' => wR F e s n l e' s' m) = fun s' => F e' s' m) ▸ this
      funext s'
      rw [jY _ _ (by omega)]
theorem TF.setOther {W V w : World} {t : Tb} {L R g k L' : Nat} {F : Nat → Nat → Nat → List Int} {ls : Nat → List Int} (h : TF W w t L R F) (hr : RowAt V w g L' ls) (hne : ∀ n e, n < L → e < 6 → t.rb n e ≠ g) (v : Value) : TF W (w.setCell ⟨g, k, none⟩ v) t L R F := by
  obtain ⟨a2, r1, r2⟩ := id hr
  refine ⟨?_, fun m hm => ?_, fun m hm e' he' => ?_, h.inj, h.low⟩
  · obtain ⟨arr, h1, h2⟩ := h.out; exact ⟨arr, qU r1 h1 (by decide), h2⟩
  · obtain ⟨arr, h1, h2⟩ := h.times m hm; exact ⟨arr, qU r1 h1 (by decide), h2⟩
  · exact (h.rows m hm e' he').setOther hr (hne m e' hm he')
theorem Good.made {ns : List Nd} {r : Int} {q : List Int} (h : Good ns r q) (gs : List Gv) (e s : Nat) {n : Nat} (hn : n < ns.length) (h0 : (qV ns n).kind ≠ 0) (h4 : (qV ns n).kind ≠ 4) (h7 : (qV ns n).kind ≠ 7) : mdL (qV ns n) (kK (qV ns n) (zL ns gs e s)) = zL ns gs e s n := by
  have hv : zL ns gs e s n = wJ (qV ns n) (kK (qV ns n) (zL ns gs e s)) := by
    conv => lhs; rw [h.val_fix gs e s hn]
    unfold fG
    rw [if_neg (by simpa using h0), if_neg (by simpa using h4)]
  rw [hv]
  generalize kK (qV ns n) (zL ns gs e s) = l
  unfold mdL wJ
  by_cases k6 : (qV ns n).kind = 6
  · obtain ⟨q1, q8⟩ := h.sum8 hn k6
    rw [if_pos (by simpa using k6), if_pos (by simpa using k6)]
    exact grp_more q1 8 q8
  · rw [if_neg (by simpa using k6), if_neg (by simpa using h7), if_neg (by simpa using k6)]
structure Two4 (W w : World) (I O : Tb) (L R : Nat) (FI FO : Nat → Nat → Nat → List Int) : Prop where
  inn : TF W w I L R FI
  out : TF W w O L R FO
  sep : ∀ n e n' e', n < L → e < 6 → n' < L → e' < 6 → I.rb n e ≠ O.rb n' e'
theorem Two4.bw {W w w' : World} {I O : Tb} {L R : Nat} {FI FO : Nat → Nat → Nat → List Int} (h : Two4 W w I O L R FI FO) (hb : Bw w w') : Two4 W w' I O L R FI FO := ⟨h.inn.bw hb, h.out.bw hb, h.sep⟩
theorem Two4.setIn {W w : World} {I O : Tb} {L R : Nat} {FI FO : Nat → Nat → Nat → List Int} (h : Two4 W w I O L R FI FO) {n e s : Nat} (hn : n < L) (he : e < 6) {v : Value} {l : List Int} (ho : Own W w v l) : Two4 W (w.setCell ⟨I.rb n e, s, none⟩ v) I O L R (wR FI e s n l) FO :=
  ⟨h.inn.set hn he ho, h.out.setOther (h.inn.rows n hn e he) (fun m e' hm he' eq => h.sep n e m e' hn he hm he' eq.symm) v, h.sep⟩
theorem Two4.setOut {W w : World} {I O : Tb} {L R : Nat} {FI FO : Nat → Nat → Nat → List Int} (h : Two4 W w I O L R FI FO) {n e s : Nat} (hn : n < L) (he : e < 6) {v : Value} {l : List Int} (ho : Own W w v l) : Two4 W (w.setCell ⟨O.rb n e, s, none⟩ v) I O L R FI (wR FO e s n l) :=
  ⟨h.inn.setOther (h.out.rows n hn e he) (fun m e' hm he' eq => h.sep m e' n e hm he' hn he eq) v, h.out.set hn he ho, h.sep⟩
theorem come_1 {x : Nd} {a : Nat} (F : Nat → List Int) (h0 : x.kind ≠ 0) (h3 : x.kind ≠ 3) (ea : x.a = a) : kK x F = F a := by unfold kK; rw [wQ h0 h3, ea]; simp
theorem come_2 {x : Nd} {a b : Nat} (F : Nat → List Int) (h3 : x.kind = 3) (ea : x.a = a) (eb : x.b = b) : kK x F = F a ++ F b := by unfold kK; rw [xL h3, ea, eb]; simp
structure RdOk (ns : List Nd) (gs : List Gv) (e s : Nat) (All : Prop) (n : Nat) (FI FO FI' FO' : Nat → Nat → Nat → List Int) : Prop where
  inn : ∀ m, m < n → (qV ns m).kind ≠ 0 → (qV ns m).kind ≠ 4 ∨ All → FI' e s m = kK (qV ns m) (zL ns gs e s)
  out : ∀ m, m < ns.length → (qV ns m).kind ≠ 7 → m < n ∨ (qV ns m).kind = 0 ∨ (qV ns m).kind = 4 ∨ All → FO' e s m = zL ns gs e s m
  oth : ∀ e' s' m, ¬ (e' = e ∧ s' = s) → FI' e' s' m = FI e' s' m ∧ FO' e' s' m = FO e' s' m
  own : ∀ m, m < ns.length → (qV ns m).kind = 0 → FI' e s m = FI e s m
  few : ∀ m, m < ns.length → (FO' e s m).length ≤ 100000
theorem RdOk.src {ns : List Nd} {gs : List Gv} {e s n : Nat} {All : Prop} {FI FO FI' FO' : Nat → Nat → Nat → List Int} (h : RdOk ns gs e s All n FI FO FI' FO') (hk : (qV ns n).kind = 0) : RdOk ns gs e s All (n + 1) FI FO FI' FO' :=
  ⟨fun m hm h0 h4 => h.inn m (by have : m ≠ n := fun e => h0 (e ▸ hk); omega) h0 h4, fun m hm h7 h' => h.out m hm h7 (by
    by_cases e : m = n
    · subst e; exact .inr (.inl hk)
    · exact h'.imp_left fun h => by omega), h.oth, h.own, h.few⟩
theorem RdOk.come {ns : List Nd} {r : Int} {q : List Int} (hG : Good ns r q) (hlow : LowG ns) {gs : List Gv} {e s n : Nat} {All : Prop} {FI FO FI' FO' : Nat → Nat → Nat → List Int} (h : RdOk ns gs e s All n FI FO FI' FO') (hn : n < ns.length) (h4 : (qV ns n).kind ≠ 4 ∨ All) : kK (qV ns n) (FO' e s) = kK (qV ns n) (zL ns gs e s) := by
  refine nX fun z hz => ?_
  obtain ⟨a, rfl, ha, h7, _⟩ := hG.inp hn hz
  rw [Int.toNat_natCast]
  refine h.out a ha h7 ?_
  rcases h4 with h4 | h4
  · rcases hlow n hn h4 a ha (by rw [uG]; exact hasB_iff.2 hz) with h' | h'
    · exact .inr (.inr (.inl h'))
    · exact .inl h'
  · exact .inr (.inr (.inr h4))
theorem RdOk.back {ns : List Nd} {r : Int} {q : List Int} (hG : Good ns r q) (hlow : LowG ns) {gs : List Gv} {e s n : Nat} {All : Prop} {FI FO FI' FO' : Nat → Nat → Nat → List Int} (h : RdOk ns gs e s All n FI FO FI' FO') (hn : n < ns.length) (hk : (qV ns n).kind = 4) : RdOk ns gs e s All (n + 1) FI FO (wR FI' e s n (kK (qV ns n) (FO' e s))) FO' := by
  refine ⟨fun m hm h0 h4 => ?_, fun m hm h7 h' => h.out m hm h7 ?_, fun e' s' m hne => ⟨?_, (h.oth e' s' m hne).2⟩, fun m hm h0 => ?_, h.few⟩
  · by_cases e1 : m = n
    · subst e1; rw [yY]; exact h.come hG hlow hn h4
    · rw [jY _ _ (by omega)]; exact h.inn m (by omega) h0 h4
  · by_cases e1 : m = n
    · subst e1; exact .inr (.inr (.inl hk))
    · exact h'.imp_left fun h => by omega
  · rw [jY _ _ (fun hh => hne ⟨hh.1, hh.2.1⟩)]; exact (h.oth e' s' m hne).1
  · rw [jY _ _ (fun hh => by rw [hh.2.2] at h0; omega)]; exact h.own m hm h0
theorem RdOk.node {ns : List Nd} {R : Nat} {r : Int} {q : List Int} (hG : Good ns r q) (hlow : LowG ns) {gs : List Gv} (hgv : nD ns gs) {e s n : Nat} {All : Prop} {FI FO FI' FO' : Nat → Nat → Nat → List Int} (h : RdOk ns gs e s All n FI FO FI' FO') (hn : n < ns.length) (hs : s < R) (hR : R ≤ 4) (h0 : (qV ns n).kind ≠ 0) (h4 : (qV ns n).kind ≠ 4) : RdOk ns gs e s All (n + 1) FI FO (wR FI' e s n (kK (qV ns n) (FO' e s))) (wR FO' e s n (mdL (qV ns n) (kK (qV ns n) (FO' e s)))) := by
  have hc := h.come hG hlow hn (.inl h4)
  have hm7 : (qV ns n).kind ≠ 7 → mdL (qV ns n) (kK (qV ns n) (FO' e s)) = zL ns gs e s n := fun h7 => by rw [hc]; exact hG.made gs e s hn h0 h4 h7
  refine ⟨fun m hm k0 k4 => ?_, fun m hm h7 h' => ?_, fun e' s' m hne => ⟨?_, ?_⟩, fun m hm k0 => ?_, fun m hm => ?_⟩
  · by_cases e1 : m = n
    · subst e1; rw [yY]; exact hc
    · rw [jY _ _ (by omega)]; exact h.inn m (by omega) k0 k4
  · by_cases e1 : m = n
    · subst e1; rw [yY]; exact hm7 h7
    · rw [jY _ _ (by omega)]; exact h.out m hm h7 (h'.imp_left fun h => by omega)
  · rw [jY _ _ (fun hh => hne ⟨hh.1, hh.2.1⟩)]; exact (h.oth e' s' m hne).1
  · rw [jY _ _ (fun hh => hne ⟨hh.1, hh.2.1⟩)]; exact (h.oth e' s' m hne).2
  · rw [jY _ _ (fun hh => by rw [hh.2.2] at k0; omega)]; exact h.own m hm k0
  · by_cases e1 : m = n
    · subst e1
      rw [yY]
      by_cases h7 : (qV ns m).kind = 7
      · unfold mdL; rw [if_neg (by simp [h7]), if_pos (by simp [h7])]; simp
      · rw [hm7 h7]; have := hG.val_len hgv e (s := s) (by omega) hm; omega
    · rw [jY _ _ (by omega)]; exact h.few m hm
def FkP (w w2 : World) : Prop := ∀ (g : Nat) (arr : Array Value), w.heap[g]? = some (.cells arr 62 (0, 0)) → w2.heap[g]? = some (.cells arr 62 (0, 0))
theorem FkP.of {w w2 : World} (hb : Bw w w2) : FkP w w2 := fun g _ hg => (Below.block hb g (Array.getElem?_eq_some_iff.1 hg).1).trans hg
theorem FkP.bw {w w2 w3 : World} (h : FkP w w2) (hb : Bw w2 w3) : FkP w w3 := fun g arr hg => FkP.of hb g arr (h g arr hg)
structure AfterX (W w wr w2 : World) (ns : List Nd) (R : Nat) (I O : Tb) (ga : Option Addr) (gc n e s : Nat) (FI FO : Nat → Nat → Nat → List Int) : Prop where
  two : Two4 W w2 I O ns.length R FI FO
  fl : w2.heap[w.heap.size]? = some (.cells #[.slice (some ⟨I.ob, 0, none⟩) ns.length I.oc, .slice (some ⟨O.ob, 0, none⟩) ns.length O.oc] 62 (0, 0))
  gr : w2.heap[w.heap.size + 1]? = some (.cells #[.slice ga ns.length gc, .int .i64 (R : Int)] 24 (0, 0))
  bx : w2.heap[wr.heap.size]? = some (.cells #[.int .i64 (qV ns n).kind, .int .i64 (qV ns n).a, .int .i64 (qV ns n).b, .int .i64 (qV ns n).k, .int .i64 (qV ns n).m] 32 (0, 0))
  bw : Bw W w2
  hn : n < ns.length
  he : e < 6
  hs : s < R
  fk : FkP w w2
theorem AfterX.mk' {W w wr w2 : World} {ns : List Nd} {R : Nat} {I O : Tb} {ga : Option Addr} {gc n e s : Nat} {FI FO : Nat → Nat → Nat → List Int} (hT : Two4 W wr I O ns.length R FI FO) (b1 : wr.heap[w.heap.size]? = some (.cells #[.slice (some ⟨I.ob, 0, none⟩) ns.length I.oc, .slice (some ⟨O.ob, 0, none⟩) ns.length O.oc] 62 (0, 0))) (b2 : wr.heap[w.heap.size + 1]? = some (.cells #[.slice ga ns.length gc, .int .i64 (R : Int)] 24 (0, 0))) (hB : Bw W wr) (hn : n < ns.length) (he : e < 6) (hs : s < R) (hfk : FkP w wr) (hb : Bw (wr.alloc (.cells #[.int .i64 (qV ns n).kind, .int .i64 (qV ns n).a, .int .i64 (qV ns n).b, .int .i64 (qV ns n).k, .int .i64 (qV ns n).m] 32)) w2) : AfterX W w wr w2 ns R I O ga gc n e s FI FO := by
  have hb0 : Bw wr (wr.alloc (.cells #[.int .i64 (qV ns n).kind, .int .i64 (qV ns n).a, .int .i64 (qV ns n).b, .int .i64 (qV ns n).k, .int .i64 (qV ns n).m] 32)) := (by repeat first|exact br _|assumption|apply bd|apply bn|apply ba|refine bt ?_ (by assumption))
  have hb1 := hb0.trans hb
  refine ⟨hT.bw hb1, (Below.block hb1 _ (Array.getElem?_eq_some_iff.1 b1).1).trans b1, (Below.block hb1 _ (Array.getElem?_eq_some_iff.1 b2).1).trans b2, ?_, hB.trans hb1, hn, he, hs, hfk.bw hb1⟩
  have h0 := heap_alloc_new wr (.cells #[.int .i64 (qV ns n).kind, .int .i64 (qV ns n).a, .int .i64 (qV ns n).b, .int .i64 (qV ns n).k, .int .i64 (qV ns n).m] 32)
  exact (Below.block hb _ (Array.getElem?_eq_some_iff.1 h0).1).trans h0
theorem AfterX.cells {W w wr w2 : World} {ns : List Nd} {R : Nat} {I O : Tb} {ga : Option Addr} {gc n e s : Nat} {FI FO : Nat → Nat → Nat → List Int} (h : AfterX W w wr w2 ns R I O ga gc n e s FI FO) :
    w2.cell? ⟨wr.heap.size, 0, none⟩ = some (.int .i64 (qV ns n).kind) ∧ w2.cell? ⟨wr.heap.size, 1, none⟩ = some (.int .i64 (qV ns n).a) ∧ w2.cell? ⟨wr.heap.size, 2, none⟩ = some (.int .i64 (qV ns n).b) ∧ w2.cell? ⟨wr.heap.size, 3, none⟩ = some (.int .i64 (qV ns n).k) ∧ w2.cell? ⟨wr.heap.size, 4, none⟩ = some (.int .i64 (qV ns n).m) ∧ wr.heap.size < w2.heap.size ∧
    w2.cell? ⟨w.heap.size, 0, none⟩ = some (.slice (some ⟨I.ob, 0, none⟩) ns.length I.oc) ∧ w2.cell? ⟨w.heap.size, 1, none⟩ = some (.slice (some ⟨O.ob, 0, none⟩) ns.length O.oc) ∧ w.heap.size < w2.heap.size ∧
    w2.cell? ⟨I.ob, n, none⟩ = some (.slice (some ⟨I.tb n, 0, none⟩) 6 (I.tc n)) ∧ w2.cell? ⟨I.tb n, e, none⟩ = some (.slice (some ⟨I.rb n e, 0, none⟩) R R) ∧ (∃ u, w2.cell? ⟨I.rb n e, s, none⟩ = some u) ∧ w2.frozen? ⟨I.rb n e, s, none⟩ = false ∧ I.ob < w2.heap.size ∧ I.tb n < w2.heap.size ∧ I.rb n e < w2.heap.size := by
  obtain ⟨o1, o2, ⟨la, lc, o3, _⟩, l1, l2, l3, l4⟩ := h.two.inn.get h.hn h.he h.hs
  exact ⟨qQ h.bx rfl, qQ h.bx rfl, qQ h.bx rfl, qQ h.bx rfl, qQ h.bx rfl, (Array.getElem?_eq_some_iff.1 h.bx).1, qQ h.fl rfl, qQ h.fl rfl, (Array.getElem?_eq_some_iff.1 h.fl).1, o1, o2, ⟨_, o3⟩, l4, l1, l2, l3⟩
theorem AfterX.ne {W w wr w2 : World} {ns : List Nd} {R : Nat} {I O : Tb} {ga : Option Addr} {gc n e s : Nat} {FI FO : Nat → Nat → Nat → List Int} (h : AfterX W w wr w2 ns R I O ga gc n e s FI FO) :
    ¬ w.heap.size = I.rb n e ∧ ¬ wr.heap.size = I.rb n e ∧ ¬ O.ob = I.rb n e ∧ ¬ O.tb n = I.rb n e ∧ ¬ O.rb n e = I.rb n e := by
  obtain ⟨a0, r0, _⟩ := h.two.inn.rows n h.hn e h.he
  have key : ∀ (g : Nat) (arr : Array Value) (ty : TypeId), w2.heap[g]? = some (.cells arr ty (0, 0)) → ty ≠ 26 → ¬ g = I.rb n e := by
    intro g arr ty hg ht eq
    subst eq
    rw [hg] at r0
    simp only [Option.some.injEq, Obj.cells.injEq] at r0
    exact ht r0.2.1
  obtain ⟨a1, o1, _⟩ := h.two.out.out
  obtain ⟨a2, t1, _⟩ := h.two.out.times n h.hn
  exact ⟨key _ _ _ h.fl (by decide), key _ _ _ h.bx (by decide), key _ _ _ o1 (by decide), key _ _ _ t1 (by decide), fun eq => h.two.sep n e n e h.hn h.he h.hn h.he eq.symm⟩
theorem AfterX.setIn {W w wr w2 : World} {ns : List Nd} {R : Nat} {I O : Tb} {ga : Option Addr} {gc n e s : Nat} {FI FO : Nat → Nat → Nat → List Int} (h : AfterX W w wr w2 ns R I O ga gc n e s FI FO) {v : Value} {l : List Int} (ho : Own W w2 v l) : AfterX W w wr (w2.setCell ⟨I.rb n e, s, none⟩ v) ns R I O ga gc n e s (wR FI e s n l) FO := by
  obtain ⟨a0, r0, _⟩ := h.two.inn.rows n h.hn e h.he
  exact ⟨h.two.setIn h.hn h.he ho, qU r0 h.fl (by decide), qU r0 h.gr (by decide), qU r0 h.bx (by decide), h.bw.setCell (h.two.inn.low n e h.hn h.he) _, h.hn, h.he, h.hs, fun g arr hg => qU r0 (h.fk g arr hg) (by decide)⟩
theorem AfterX.setOut {W w wr w2 : World} {ns : List Nd} {R : Nat} {I O : Tb} {ga : Option Addr} {gc n e s : Nat} {FI FO : Nat → Nat → Nat → List Int} (h : AfterX W w wr w2 ns R I O ga gc n e s FI FO) {v : Value} {l : List Int} (ho : Own W w2 v l) : AfterX W w wr (w2.setCell ⟨O.rb n e, s, none⟩ v) ns R I O ga gc n e s FI (wR FO e s n l) := by
  obtain ⟨a0, r0, _⟩ := h.two.out.rows n h.hn e h.he
  exact ⟨h.two.setOut h.hn h.he ho, qU r0 h.fl (by decide), qU r0 h.gr (by decide), qU r0 h.bx (by decide), h.bw.setCell (h.two.out.low n e h.hn h.he) _, h.hn, h.he, h.hs, fun g arr hg => qU r0 (h.fk g arr hg) (by decide)⟩
theorem AfterX.more {W w wr w2 : World} {ns : List Nd} {R : Nat} {I O : Tb} {ga : Option Addr} {gc n e s : Nat} {FI FO : Nat → Nat → Nat → List Int} (h : AfterX W w wr w2 ns R I O ga gc n e s FI FO) {w3 : World} (hb : Bw w2 w3) : AfterX W w wr w3 ns R I O ga gc n e s FI FO :=
  ⟨h.two.bw hb, (Below.block hb _ (Array.getElem?_eq_some_iff.1 h.fl).1).trans h.fl, (Below.block hb _ (Array.getElem?_eq_some_iff.1 h.gr).1).trans h.gr, (Below.block hb _ (Array.getElem?_eq_some_iff.1 h.bx).1).trans h.bx, h.bw.trans hb, h.hn, h.he, h.hs, h.fk.bw hb⟩
theorem AfterX.neO {W w wr w2 : World} {ns : List Nd} {R : Nat} {I O : Tb} {ga : Option Addr} {gc n e s : Nat} {FI FO : Nat → Nat → Nat → List Int} (h : AfterX W w wr w2 ns R I O ga gc n e s FI FO) : ¬ w.heap.size = O.rb n e ∧ ¬ wr.heap.size = O.rb n e ∧ ¬ O.ob = O.rb n e ∧ ¬ O.tb n = O.rb n e := by
  obtain ⟨a0, r0, _⟩ := h.two.out.rows n h.hn e h.he
  have key : ∀ (g : Nat) (arr : Array Value) (ty : TypeId), w2.heap[g]? = some (.cells arr ty (0, 0)) → ty ≠ 26 → ¬ g = O.rb n e := by
    intro g arr ty hg ht eq
    subst eq
    rw [hg] at r0
    simp only [Option.some.injEq, Obj.cells.injEq] at r0
    exact ht r0.2.1
  obtain ⟨a1, o1, _⟩ := h.two.out.out
  obtain ⟨a2, t1, _⟩ := h.two.out.times n h.hn
  exact ⟨key _ _ _ h.fl (by decide), key _ _ _ h.bx (by decide), key _ _ _ o1 (by decide), key _ _ _ t1 (by decide)⟩
def OutsP (ns : List Nd) (w wr : World) (R : Nat) (O : Tb) (n e s : Nat) (w2 : World) : Prop :=
    w2.cell? ⟨wr.heap.size, 0, none⟩ = some (.int .i64 (qV ns n).kind) ∧ w2.cell? ⟨wr.heap.size, 1, none⟩ = some (.int .i64 (qV ns n).a) ∧ w2.cell? ⟨wr.heap.size, 2, none⟩ = some (.int .i64 (qV ns n).b) ∧ w2.cell? ⟨wr.heap.size, 3, none⟩ = some (.int .i64 (qV ns n).k) ∧ w2.cell? ⟨wr.heap.size, 4, none⟩ = some (.int .i64 (qV ns n).m) ∧
    w2.cell? ⟨w.heap.size, 1, none⟩ = some (.slice (some ⟨O.ob, 0, none⟩) ns.length O.oc) ∧
    w2.cell? ⟨O.ob, n, none⟩ = some (.slice (some ⟨O.tb n, 0, none⟩) 6 (O.tc n)) ∧ w2.cell? ⟨O.tb n, e, none⟩ = some (.slice (some ⟨O.rb n e, 0, none⟩) R R)
theorem AfterX.outs {W w wr w2 : World} {ns : List Nd} {R : Nat} {I O : Tb} {ga : Option Addr} {gc n e s : Nat} {FI FO : Nat → Nat → Nat → List Int} (h : AfterX W w wr w2 ns R I O ga gc n e s FI FO) : OutsP ns w wr R O n e s w2 ∧ (∃ u, w2.cell? ⟨O.rb n e, s, none⟩ = some u) ∧ w2.frozen? ⟨O.rb n e, s, none⟩ = false ∧ O.rb n e < w2.heap.size := by
  obtain ⟨o1, o2, ⟨la, lc, o3, _⟩, l1, l2, l3, l4⟩ := h.two.out.get h.hn h.he h.hs
  exact ⟨⟨qQ h.bx rfl, qQ h.bx rfl, qQ h.bx rfl, qQ h.bx rfl, qQ h.bx rfl, qQ h.fl rfl, o1, o2⟩, ⟨_, o3⟩, l4, l3⟩
set_option maxRecDepth 100000 in
set_option maxHeartbeats 8000000 in
/-- One going over all nodes at a time. -/
theorem kround_any {ns : List Nd} {R : Nat} {r : Int} {q : List Int} (hG : Good ns r q) (hlow : LowG ns) {gs : List Gv} (hgv : nD ns gs) (hkd : ∀ n, n < ns.length → yD (qV ns n)) (ga : Option Addr) (gc : Nat) (e s : Nat) (he : e < 6) (hs : s < R) (hR4 : R ≤ 4) (h8 : ns.length ≤ 8) {W : World} (w : World) (hn : NodesAt W ga ns) (I O : Tb) (FI FO : Nat → Nat → Nat → List Int) (All : Prop) (hT : Two4 W w I O ns.length R FI FO) (hBW : Bw W w)
    (hSB : ∀ n, n < ns.length → (qV ns n).kind = 0 ∨ (qV ns n).kind = 4 → FO e s n = zL ns gs e s n) (hAll : All → ∀ n, n < ns.length → (qV ns n).kind ≠ 7 → FO e s n = zL ns gs e s n) (hfew : ∀ n, n < ns.length → (FO e s n).length ≤ 100000) :
    Calls Try.prog 55 #[.agg #[I.val ns.length, O.val ns.length], .agg #[.slice ga ns.length gc, .int .i64 (R : Int)], .int .i64 (e : Int), .int .i64 (s : Int)] w fun en w' => en = .returned (.tuple #[]) ∧
      ∃ FI' FO', Two4 W w' I O ns.length R FI' FO' ∧ Bw W w' ∧ FkP w w' ∧ RdOk ns gs e s All ns.length FI FO FI' FO' := by
  have HT := qJ hT
  have Hst : Hid (RdOk ns gs e s All 0 FI FO FI FO) := qJ ⟨fun m hm => absurd hm (Nat.not_lt_zero _), fun m hm h7 h => by
    rcases h with h | h | h | h
    · exact absurd h (Nat.not_lt_zero _)
    · exact hSB m hm (.inl h)
    · exact hSB m hm (.inr h)
    · exact hAll h m hm h7, fun _ _ _ _ => ⟨rfl, rfl⟩, fun _ _ _ => rfl, hfew⟩
  have HG := qJ hG
  have Hkd := qJ hkd
  have Hlow := qJ hlow
  have Hgv := qJ hgv
  clear hT hSB hkd hlow hAll hfew
  unfold Tb.val
  go_enter Try.func55, Try.ntmps55
  go_wp2_with fail
  obtain ⟨W1, hW1⟩ : ∃ W1, (w.alloc (.cells #[.slice (some ⟨I.ob, 0, none⟩) ns.length I.oc, .slice (some ⟨O.ob, 0, none⟩) ns.length O.oc] 62)).alloc (.cells #[.slice ga ns.length gc, .int .i64 (R : Int)] 24) = W1 := ⟨_, rfl⟩
  rw [hW1]
  obtain ⟨b1, b2, hB1⟩ := yU w (.cells #[.slice (some ⟨I.ob, 0, none⟩) ns.length I.oc, .slice (some ⟨O.ob, 0, none⟩) ns.length O.oc] 62) (.cells #[.slice ga ns.length gc, .int .i64 (R : Int)] 24)
  rw [hW1] at b1 b2 hB1
  clear hW1
  go_loopw [8] (fun i wr => ∃ (n : Nat) (FI' FO' : Nat → Nat → Nat → List Int), n ≤ ns.length ∧ i = .int .i64 n ∧ Two4 W wr I O ns.length R FI' FO' ∧ wr.heap[w.heap.size]? = some (.cells #[.slice (some ⟨I.ob, 0, none⟩) ns.length I.oc, .slice (some ⟨O.ob, 0, none⟩) ns.length O.oc] 62 (0, 0)) ∧ wr.heap[w.heap.size + 1]? = some (.cells #[.slice ga ns.length gc, .int .i64 (R : Int)] 24 (0, 0)) ∧ Bw W wr ∧ FkP w wr ∧ RdOk ns gs e s All n FI FO FI' FO') (fun i _ => ns.length - (intOf i).toNat)
  case atStart => exact ⟨0, FI, FO, Nat.zero_le _, rfl, (qK HT).bw hB1, b1, b2, hBW.trans hB1, FkP.of hB1, qK Hst⟩
  case round =>
    clear HT Hst b1 b2
    obtain ⟨n, FI', FO', hnl, rfl, hT, b1, b2, hB, hfk, hRd⟩ := hrel
    have Hfk := qJ hfk
    clear hfk
    rename World => wr
    have c0 := qQ (o := 0) b1 rfl
    have c1 := qQ (o := 1) b1 rfl
    have d0 := qQ (o := 0) b2 rfl
    have cl := (Array.getElem?_eq_some_iff.1 b1).1
    have dl := (Array.getElem?_eq_some_iff.1 b2).1
    have HRd := qJ hRd
    clear hRd
    by_cases hlt : n < ns.length
    · obtain ⟨b, off, rfl, hb, hc⟩ := (hn.below hB) n hlt
      obtain ⟨k0, k1, k2, k3, k4⟩ := hc n hlt
      clear hc
      have hn1 : (n : Int) < (ns.length : Int) := by omega
      cases hk0 : ((qV ns n).kind == 0) with
      | true =>
        have hk0' : (qV ns n).kind = 0 := by simpa using hk0
        have Hnx := qJ ((qK HRd).src hk0')
        have Hb := qJ (⟨hT, b1, b2, hB⟩ : _ ∧ _ ∧ _ ∧ _)
        clear hT b1 b2 hB
        go_wp2_with fail
        go_roundw
        case rel =>
          obtain ⟨hT, b1, b2, hB⟩ := qK Hb
          have hBx : Bw wr (wr.alloc (.cells #[.int .i64 0, .int .i64 (qV ns n).a, .int .i64 (qV ns n).b, .int .i64 (qV ns n).k, .int .i64 (qV ns n).m] 32)) := (by repeat first|exact br _|assumption|apply bd|apply bn|apply ba|refine bt ?_ (by assumption))
          exact ⟨n + 1, FI', FO', by omega, by go_num, hT.bw hBx, (Below.block hBx _ cl).trans b1, (Below.block hBx _ dl).trans b2, hB.trans hBx, (qK Hfk).bw hBx, qK Hnx⟩
        case measure => simp [intOf]; omega
      | false =>
        have hk0' : (qV ns n).kind ≠ 0 := by simpa using hk0
        obtain ⟨a, ea, ha, ha7, _⟩ := hG.inp hlt (z := (qV ns n).a) (by
          by_cases k3 : (qV ns n).kind = 3
          · rw [xL k3]; simp
          · rw [wQ hk0' k3]; simp)
        obtain ⟨o1, o2, ⟨la, lc, o3, fo, flc⟩, l1, l2, l3, _⟩ := hT.out.get (n := a) ha he hs
        have hfa := (qK HRd).few a ha
        have ha1 : (a : Int) < (ns.length : Int) := by omega
        have he1 : (e : Int) < 6 := by omega
        have hs1 : (s : Int) < (R : Int) := by omega
        have Hall := qJ (fun (w2 : World) (hb : Bw (wr.alloc (.cells #[.int .i64 (qV ns n).kind, .int .i64 (qV ns n).a, .int .i64 (qV ns n).b, .int .i64 (qV ns n).k, .int .i64 (qV ns n).m] 32)) w2) => AfterX.mk' hT b1 b2 hB hlt he hs (qK Hfk) hb)
        have HB := qJ hB
        have Hhb := qJ (hB.trans (show Bw wr (wr.alloc (.cells #[.int .i64 (qV ns n).kind, .int .i64 (qV ns n).a, .int .i64 (qV ns n).b, .int .i64 (qV ns n).k, .int .i64 (qV ns n).m] 32)) from (by repeat first|exact br _|assumption|apply bd|apply bn|apply ba|refine bt ?_ (by assumption))))
        clear hB
        by_cases k4' : (qV ns n).kind = 4
        · have hk4 : ((qV ns n).kind != 4) = false := by simp [k4']
          have hk3 : ((qV ns n).kind == 3) = false := by simp [k4']
          have Hnx := qJ ((qK HRd).back (qK HG) (qK Hlow) hlt k4')
          rw [come_1 _ hk0' (by omega) ea] at Hnx
          rw [ea] at k1
          clear k4'
          go_wp2_with (at_builtin; refine appA _ rfl _ _ rfl _ _ [] rfl (Own.nil _ _) _ _ (FO' e s a) rfl (fo.ints.1.below (by repeat first|exact br _|assumption|apply bd|apply bn|apply ba|refine bt ?_ (by assumption))) (by simp; omega) (Bw.refl _) ?_; intro v1 w2 ho2 hB2; rw [List.nil_append] at ho2; obtain ⟨va, vc, rfl, hvc⟩ := ho2.slice; have hA := (qK Hall) w2 (ea ▸ hB2); obtain ⟨x0, x1, x2, x3, x4, xl, y0, y1, yl, i1, i2, ⟨u3, i3⟩, i4, i5, i6, i7⟩ := hA.cells; obtain ⟨n1, n2, n3, n4, n5⟩ := hA.ne)
          go_roundw
          case rel =>
            have hA3 := hA.setIn (ho2.weaken (ea ▸ qK Hhb))
            exact ⟨n + 1, _, _, by omega, by go_num, hA3.two, hA3.fl, hA3.gr, hA3.bw, hA3.fk, qK Hnx⟩
          case measure => simp [intOf]; omega
        · have hk4 : ((qV ns n).kind != 4) = true := by simp [k4']
          obtain ⟨kk1, kk6, kk2⟩ := (qK Hkd) n hlt
          have Hnx := qJ ((qK HRd).node (R := R) (qK HG) (qK Hlow) (qK Hgv) hlt hs hR4 hk0' k4')
          have Hc64 : Hid (nJ (kK (qV ns n) (FO' e s))) := qJ (by
            rw [(qK HRd).come (qK HG) (qK Hlow) hlt (.inl k4')]
            exact bM fun z hz => by
              obtain ⟨a', rfl, ha', _, _⟩ := (qK HG).inp hlt hz
              exact (qK HG).val_64 (qK Hgv) e s a' ha')
          cases hk3 : ((qV ns n).kind == 3) with
          | true =>
            have hk3' : (qV ns n).kind = 3 := by simpa using hk3
            obtain ⟨c, eb, hcl, hc7, _⟩ := hG.inp hlt (z := (qV ns n).b) (by rw [xL hk3']; simp)
            have hfc := (qK HRd).few c hcl
            have hc1 : (c : Int) < (ns.length : Int) := by omega
            obtain ⟨lx, hlx⟩ : ∃ lx, FO' e s a ++ FO' e s c = lx := ⟨_, rfl⟩
            have hll : lx.length ≤ 200000 := by rw [← hlx, List.length_append]; omega
            rw [come_2 _ hk3' ea eb, hlx] at Hnx Hc64
            have Hlx := qJ hlx
            clear hlx
            rw [ea] at k1
            rw [eb] at k2
            clear hk3'
            go_wp2_with (first | (at_builtin; refine appA _ rfl _ _ rfl _ _ [] rfl (Own.nil _ _) _ _ (FO' e s a) rfl (fo.ints.1.below (by repeat first|exact br _|assumption|apply bd|apply bn|apply ba|refine bt ?_ (by assumption))) (by simp; omega) (Bw.refl _) ?_; intro v1 w2 ho2 hB2; rw [List.nil_append] at ho2; obtain ⟨va, vc, rfl, hvc⟩ := ho2.slice; have hA := (qK Hall) w2 (ea ▸ eb ▸ hB2); obtain ⟨x0, x1, x2, x3, x4, xl, y0, y1, yl, i1, i2, ⟨u3, i3⟩, i4, i5, i6, i7⟩ := hA.cells; obtain ⟨n1, n2, n3, n4, n5⟩ := hA.ne; obtain ⟨r1, r2, ⟨lb, lcb, r3, fob, _⟩, s1, s2, s3, _⟩ := hA.two.out.get (n := c) hcl he hs) | (at_builtin; refine appA _ rfl _ _ rfl _ _ (FO' e s a) rfl ho2 _ _ (FO' e s c) rfl fob.ints.1 (by omega) hB2 ?_; intro v4 w4 ho4 hB4; rw [qK Hlx] at ho4; obtain ⟨va4, vc4, rfl, hvc4⟩ := ho4.slice; have hA4 := (qK Hall) w4 (ea ▸ eb ▸ hB4); obtain ⟨x0, x1, x2, x3, x4, xl, y0, y1, yl, i1, i2, ⟨u3, i3⟩, i4, i5, i6, i7⟩ := hA4.cells; obtain ⟨n1, n2, n3, n4, n5⟩ := hA4.ne))
            have hA3 := hA4.setIn (ho4.weaken (ea ▸ eb ▸ qK Hhb))
            have ho3 : Own W (w4.setCell ⟨I.rb n e, s, none⟩ (.slice va4 lx.length vc4)) (.slice va4 lx.length vc4) lx := (ho4.weaken (ea ▸ eb ▸ qK Hhb)).setRow (hA4.two.inn.rows n hlt e he)
            generalize w4.setCell ⟨I.rb n e, s, none⟩ (.slice va4 lx.length vc4) = w3 at hA3 ho3 ⊢
            have HA3 := qJ hA3
            have q0 := hA3.outs.1
            unfold OutsP at q0
            obtain ⟨⟨p0, p1, p2, p3, p4, p5, p6, p7⟩, ⟨u9, p8⟩, p9, p10⟩ := hA3.outs
            obtain ⟨m1, m2, m3, m4⟩ := hA3.neO
            clear x0 x1 x2 x3 x4 xl y0 y1 yl i1 i2 i3 i4 i5 i6 i7 n1 n2 n3 n4 n5 hA hA4 hA3 c0 c1 d0 cl dl k0 k1 k2 k3 k4 o1 o2 o3 l1 l2 l3 hB2 ho2 hB4 ho4 r1 r2 r3 fob s1 s2 s3
            have Hmd : Hid (∀ w', Bw w3 w' → Calls Try.prog 82 #[.agg #[.int .i64 (qV ns n).kind, .int .i64 (qV ns n).a, .int .i64 (qV ns n).b, .int .i64 (qV ns n).k, .int .i64 (qV ns n).m], .slice va4 lx.length vc4] w' fun en w2 => (∃ v, en = .returned v ∧ Own w' w2 v (mdL (qV ns n) lx) ∧ Bw w' w2) ∧ AfterX W w wr w2 ns R I O (some ⟨b, off, none⟩) gc n e s (wR FI' e s n lx) FO') := qJ (by
              intro w' hb
              have h0 := kmade_any (qV ns n) lx va4 vc4 w' ((ho3.bw hb).ints.1) (by omega) (by omega) kk2 kk6 (qK Hc64)
              unfold Nd.val at h0
              refine h0.mono ?_
              rintro en w5 ⟨v, rfl, h1, h2⟩
              exact ⟨⟨v, rfl, h1, h2⟩, (qK HA3).more (hb.trans h2)⟩)
            clear Hall HRd HG Hkd Hlow Hgv Hc64 kk1 kk2 kk6 ea eb
            refine wp_region_held_drew (S := (fun w' => w'.cell? ⟨wr.heap.size, 0, none⟩ = some (.int .i64 (qV ns n).kind) ∧ w'.cell? ⟨wr.heap.size, 1, none⟩ = some (.int .i64 (qV ns n).a) ∧ w'.cell? ⟨wr.heap.size, 2, none⟩ = some (.int .i64 (qV ns n).b) ∧ w'.cell? ⟨wr.heap.size, 3, none⟩ = some (.int .i64 (qV ns n).k) ∧ w'.cell? ⟨wr.heap.size, 4, none⟩ = some (.int .i64 (qV ns n).m) ∧ w'.cell? ⟨w.heap.size, 1, none⟩ = some (.slice (some ⟨O.ob, 0, none⟩) ns.length O.oc) ∧ w'.cell? ⟨O.ob, n, none⟩ = some (.slice (some ⟨O.tb n, 0, none⟩) 6 (O.tc n)) ∧ w'.cell? ⟨O.tb n, e, none⟩ = some (.slice (some ⟨O.rb n e, 0, none⟩) R R))) (by kernel_rfl) (by (try dsimp only); go_keep) (fun hHeld => ?_)
            refine tk 0 ?_; try simp only [Act.put, qT, qS, qR]
            refine tk 1 ?_; try simp only [Act.put, qT, qS, qR]
            refine tk 2 ?_; try simp only [Act.put, qT, qS, qR]
            refine tk 3 ?_; try simp only [Act.put, qT, qS, qR]
            refine tk 4 ?_; try simp only [Act.put, qT, qS, qR]
            refine tk 5 ?_; try simp only [Act.put, qT, qS, qR]
            refine tk 6 ?_; try simp only [Act.put, qT, qS, qR]
            refine tk 7 ?_; try simp only [Act.put, qT, qS, qR]
            refine tk 8 ?_; try simp only [Act.put, qT, qS, qR]
            refine tk 9 ?_; try simp only [Act.put, qT, qS, qR]
            refine tk 10 ?_; try simp only [Act.put, qT, qS, qR]
            refine wpAnyH_ready (rs := [11]) (by kernel_rfl) (by simp) ?_
            refine AllReadyH.cons rfl (fun K hK => ?_) AllReadyH.nil
            go_simp
            go_at_call 82
            refine ((qK Hmd) _ (by repeat first|exact br _|assumption|apply bd|apply bn|apply ba|refine bt ?_ (by assumption))).mono ?_
            rintro _ w9 ⟨⟨v9, rfl, ho9, hB9⟩, hA9⟩
            obtain ⟨va9, vc9, rfl, hvc9⟩ := ho9.slice
            obtain ⟨⟨t0, t1, t2, t3, t4, t5, t6, t7⟩, ⟨u8, t8⟩, t9, t10⟩ := hA9.outs
            (try go_wp2_with fail)
            refine hK.out _ _ (by (try dsimp only); go_keep) (fun hHeld => ?_)
            clear hK K
            try simp only [Act.put, qT, qS, qR]
            refine tk 12 ?_; try simp only [Act.put, qT, qS, qR]
            refine wpAnyH_ready (rs := [13]) (by kernel_rfl) (by simp) ?_
            refine AllReadyH.cons rfl (fun K hK => ?_) AllReadyH.nil
            go_simp
            have hA10 := hA9.setOut (ho9.weaken ((qK HA3).bw.trans (by repeat first|exact br _|assumption|apply bd|apply bn|apply ba|refine bt ?_ (by assumption))))
            refine hK.out _ _ hA10.outs.1 (fun hHeld => ?_)
            clear hK K
            try simp only [Act.put, qT, qS, qR]
            refine wpAnyH_done (by kernel_rfl) ?_ _
            go_wp2_with fail
            go_roundw
            case rel =>
              exact ⟨n + 1, _, _, by omega, by go_num, hA10.two, hA10.fl, hA10.gr, hA10.bw, hA10.fk, qK Hnx⟩
            case measure => simp [intOf]; omega
          | false =>
            have hk3' : (qV ns n).kind ≠ 3 := by simpa using hk3
            rw [come_1 _ hk0' hk3' ea] at Hnx Hc64
            rw [ea] at k1
            go_wp2_with (at_builtin; refine appA _ rfl _ _ rfl _ _ [] rfl (Own.nil _ _) _ _ (FO' e s a) rfl (fo.ints.1.below (by repeat first|exact br _|assumption|apply bd|apply bn|apply ba|refine bt ?_ (by assumption))) (by simp; omega) (Bw.refl _) ?_; intro v1 w2 ho2 hB2; rw [List.nil_append] at ho2; obtain ⟨va, vc, rfl, hvc⟩ := ho2.slice; have hA := (qK Hall) w2 (ea ▸ hB2); obtain ⟨x0, x1, x2, x3, x4, xl, y0, y1, yl, i1, i2, ⟨u3, i3⟩, i4, i5, i6, i7⟩ := hA.cells; obtain ⟨n1, n2, n3, n4, n5⟩ := hA.ne)
            have hA3 := hA.setIn (ho2.weaken (ea ▸ qK Hhb))
            have ho3 : Own W (w2.setCell ⟨I.rb n e, s, none⟩ (.slice va (FO' e s a).length vc)) (.slice va (FO' e s a).length vc) (FO' e s a) := (ho2.weaken (ea ▸ qK Hhb)).setRow (hA.two.inn.rows n hlt e he)
            generalize w2.setCell ⟨I.rb n e, s, none⟩ (.slice va (FO' e s a).length vc) = w3 at hA3 ho3 ⊢
            have HA3 := qJ hA3
            have q0 := hA3.outs.1
            unfold OutsP at q0
            obtain ⟨⟨p0, p1, p2, p3, p4, p5, p6, p7⟩, ⟨u9, p8⟩, p9, p10⟩ := hA3.outs
            obtain ⟨m1, m2, m3, m4⟩ := hA3.neO
            clear x0 x1 x2 x3 x4 xl y0 y1 yl i1 i2 i3 i4 i5 i6 i7 n1 n2 n3 n4 n5 hA hA3 c0 c1 d0 cl dl k0 k1 k2 k3 k4 o1 o2 o3 l1 l2 l3 hB2 ho2
            have Hmd : Hid (∀ w', Bw w3 w' → Calls Try.prog 82 #[.agg #[.int .i64 (qV ns n).kind, .int .i64 (qV ns n).a, .int .i64 (qV ns n).b, .int .i64 (qV ns n).k, .int .i64 (qV ns n).m], .slice va (FO' e s a).length vc] w' fun en w2 => (∃ v, en = .returned v ∧ Own w' w2 v (mdL (qV ns n) (FO' e s a)) ∧ Bw w' w2) ∧ AfterX W w wr w2 ns R I O (some ⟨b, off, none⟩) gc n e s (wR FI' e s n (FO' e s a)) FO') := qJ (by
              intro w' hb
              have h0 := kmade_any (qV ns n) (FO' e s a) va vc w' ((ho3.bw hb).ints.1) (by omega) (by omega) kk2 kk6 (qK Hc64)
              unfold Nd.val at h0
              refine h0.mono ?_
              rintro en w5 ⟨v, rfl, h1, h2⟩
              exact ⟨⟨v, rfl, h1, h2⟩, (qK HA3).more (hb.trans h2)⟩)
            clear Hall HRd HG Hkd Hlow Hgv Hc64 kk1 kk2 kk6 ea
            refine wp_region_held_drew (S := (fun w' => w'.cell? ⟨wr.heap.size, 0, none⟩ = some (.int .i64 (qV ns n).kind) ∧ w'.cell? ⟨wr.heap.size, 1, none⟩ = some (.int .i64 (qV ns n).a) ∧ w'.cell? ⟨wr.heap.size, 2, none⟩ = some (.int .i64 (qV ns n).b) ∧ w'.cell? ⟨wr.heap.size, 3, none⟩ = some (.int .i64 (qV ns n).k) ∧ w'.cell? ⟨wr.heap.size, 4, none⟩ = some (.int .i64 (qV ns n).m) ∧ w'.cell? ⟨w.heap.size, 1, none⟩ = some (.slice (some ⟨O.ob, 0, none⟩) ns.length O.oc) ∧ w'.cell? ⟨O.ob, n, none⟩ = some (.slice (some ⟨O.tb n, 0, none⟩) 6 (O.tc n)) ∧ w'.cell? ⟨O.tb n, e, none⟩ = some (.slice (some ⟨O.rb n e, 0, none⟩) R R))) (by kernel_rfl) (by (try dsimp only); go_keep) (fun hHeld => ?_)
            refine tk 0 ?_; try simp only [Act.put, qT, qS, qR]
            refine tk 1 ?_; try simp only [Act.put, qT, qS, qR]
            refine tk 2 ?_; try simp only [Act.put, qT, qS, qR]
            refine tk 3 ?_; try simp only [Act.put, qT, qS, qR]
            refine tk 4 ?_; try simp only [Act.put, qT, qS, qR]
            refine tk 5 ?_; try simp only [Act.put, qT, qS, qR]
            refine tk 6 ?_; try simp only [Act.put, qT, qS, qR]
            refine tk 7 ?_; try simp only [Act.put, qT, qS, qR]
            refine tk 8 ?_; try simp only [Act.put, qT, qS, qR]
            refine tk 9 ?_; try simp only [Act.put, qT, qS, qR]
            refine tk 10 ?_; try simp only [Act.put, qT, qS, qR]
            refine wpAnyH_ready (rs := [11]) (by kernel_rfl) (by simp) ?_
            refine AllReadyH.cons rfl (fun K hK => ?_) AllReadyH.nil
            go_simp
            go_at_call 82
            refine ((qK Hmd) _ (by repeat first|exact br _|assumption|apply bd|apply bn|apply ba|refine bt ?_ (by assumption))).mono ?_
            rintro _ w9 ⟨⟨v9, rfl, ho9, hB9⟩, hA9⟩
            obtain ⟨va9, vc9, rfl, hvc9⟩ := ho9.slice
            obtain ⟨⟨t0, t1, t2, t3, t4, t5, t6, t7⟩, ⟨u8, t8⟩, t9, t10⟩ := hA9.outs
            (try go_wp2_with fail)
            refine hK.out _ _ (by (try dsimp only); go_keep) (fun hHeld => ?_)
            clear hK K
            try simp only [Act.put, qT, qS, qR]
            refine tk 12 ?_; try simp only [Act.put, qT, qS, qR]
            refine wpAnyH_ready (rs := [13]) (by kernel_rfl) (by simp) ?_
            refine AllReadyH.cons rfl (fun K hK => ?_) AllReadyH.nil
            go_simp
            have hA10 := hA9.setOut (ho9.weaken ((qK HA3).bw.trans (by repeat first|exact br _|assumption|apply bd|apply bn|apply ba|refine bt ?_ (by assumption))))
            refine hK.out _ _ hA10.outs.1 (fun hHeld => ?_)
            clear hK K
            try simp only [Act.put, qT, qS, qR]
            refine wpAnyH_done (by kernel_rfl) ?_ _
            go_wp2_with fail
            go_roundw
            case rel =>
              exact ⟨n + 1, _, _, by omega, by go_num, hA10.two, hA10.fl, hA10.gr, hA10.bw, hA10.fk, qK Hnx⟩
            case measure => simp [intOf]; omega
    · have hnn : n = ns.length := by omega
      subst hnn
      clear b1 b2
      go_wp2_with fail
      go_end0
      exact ⟨rfl, FI', FO', hT, hB, qK Hfk, qK HRd⟩
end Go.Proofs.Ytfemleimkbjehaa
