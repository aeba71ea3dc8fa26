import Derived.Test.YtfemleimkbjehaaGreatJ17
import Derived.Test.YtfemleimkbjehaaGreatJ12
import Derived.Laws.OwnMore
import Derived.Test.YtfemleimkbjehaaGreatJ13
namespace Go.Proofs.YtfemleimkbjehaaGreat
open Go.RowKit

/-- When a point's time can come to x (the round; -1: it cannot). -/
def comesI (ns : List Nd) (D : Nat → Nat → Int) (n : Nat) (out : Bool) (s x : Nat) : Int :=
  if !out && (n == x) then s else if decide (D n x < 0) then -1 else if !out && ((ndn ns n).kind == 4) then s + (D n x + 1) else s + D n x

set_option maxRecDepth 100000 in
set_option maxHeartbeats 2000000 in
theorem rcomes_any {rb : Nat} {x : RV} {ns : List Nd} {R W : Nat} {D : Nat → Nat → Int} {st : RSt} (n e s y : Nat) (out : Bool) (ct : Int) (w : World) (hR : RRead w rb x ns R W D st) (hn : n < ns.length) (hy : y < ns.length) (hs : s < R) (hD : D n y ≤ 1000) :
    Calls Tryz.prog 68 #[.pointer (some ⟨rb, 0, none⟩), .agg #[.int .i64 (n : Int), .bool out, .int .i64 (e : Int), .int .i64 (s : Int), .int .i64 ct], .int .i64 (y : Int)] w fun en w' => en = .returned (.int .i64 (comesI ns D n out s y)) ∧ Bw w w' := by
  obtain ⟨s1, s2, s3, s4, s5⟩ := hR.small
  have c0 := hR.c0
  have c8 := hR.c8
  have hlt0 := hR.lt
  obtain ⟨b, off, eb, hb, hc⟩ := hR.nodes n hn
  have k0 := (hc n hn).1
  rw [eb] at c0
  obtain ⟨tb, toff, te, htb, tpb, tpo, tpc, td0, htpb, tdc⟩ := hR.dist n hn
  have td1 := tdc y hy
  rw [te] at c8
  clear hc eb tdc te
  have hj1 : (n : Int) < (ns.length : Int) := by omega
  have hj2 : (y : Int) < (ns.length : Int) := by omega
  have Hc : Hid (comesI ns D n out s y = if !out && (n == y) then (s : Int) else if decide (D n y < 0) then -1 else if !out && ((ndn ns n).kind == 4) then s + (D n y + 1) else s + D n y) := hide rfl
  have hny : ((n : Int) == (y : Int)) = (n == y) := by rw [Bool.eq_iff_iff]; simp; omega
  by_cases hd : D n y < 0
  · have hdd : decide (D n y < 0) = true := by simpa using hd
    cases out with
    | true =>
      have He : Hid (comesI ns D n true s y = -1) := hide (by rw [unhide Hc, hdd]; rfl)
      clear Hc hd
      go_enter Tryz.func68, Tryz.ntmps68
      go_wp2_with fail
      go_quiet (fail)
      go_wp2_with fail
      go_ret
      exact ⟨ret_int (unhide He).symm, (by repeat (first | exact Bw.refl _ | assumption | refine Bw.drew ?_ | refine Bw.drewN ?_ _ | refine Bw.alloc ?_ _ | refine Bw.trans ?_ (by assumption)))⟩
    | false =>
      cases hxy : (n == y) with
      | true =>
        rw [hxy] at hny
        have He : Hid (comesI ns D n false s y = s) := hide (by rw [unhide Hc, hxy]; rfl)
        clear Hc hd
        go_enter Tryz.func68, Tryz.ntmps68
        go_wp2_with fail
        go_ret
        exact ⟨ret_int (unhide He).symm, (by repeat (first | exact Bw.refl _ | assumption | refine Bw.drew ?_ | refine Bw.drewN ?_ _ | refine Bw.alloc ?_ _ | refine Bw.trans ?_ (by assumption)))⟩
      | false =>
        rw [hxy] at hny
        have He : Hid (comesI ns D n false s y = -1) := hide (by rw [unhide Hc, hxy, hdd]; rfl)
        clear Hc hd
        go_enter Tryz.func68, Tryz.ntmps68
        go_wp2_with fail
        go_quiet (fail)
        go_wp2_with fail
        go_ret
        exact ⟨ret_int (unhide He).symm, (by repeat (first | exact Bw.refl _ | assumption | refine Bw.drew ?_ | refine Bw.drewN ?_ _ | refine Bw.alloc ?_ _ | refine Bw.trans ?_ (by assumption)))⟩
  · have hdd : decide (D n y < 0) = false := by simpa using hd
    have hd0 : 0 ≤ D n y := by omega
    cases out with
    | true =>
      have He : Hid (comesI ns D n true s y = s + D n y) := hide (by rw [unhide Hc, hdd]; rfl)
      clear Hc hd
      go_enter Tryz.func68, Tryz.ntmps68
      go_wp2_with fail
      go_quiet (fail)
      go_wp2_with fail
      go_quiet (fail)
      go_wp2_with fail
      go_ret
      exact ⟨ret_int (unhide He).symm, (by repeat (first | exact Bw.refl _ | assumption | refine Bw.drew ?_ | refine Bw.drewN ?_ _ | refine Bw.alloc ?_ _ | refine Bw.trans ?_ (by assumption)))⟩
    | false =>
      cases hxy : (n == y) with
      | true =>
        rw [hxy] at hny
        have He : Hid (comesI ns D n false s y = s) := hide (by rw [unhide Hc, hxy]; rfl)
        clear Hc hd
        go_enter Tryz.func68, Tryz.ntmps68
        go_wp2_with fail
        go_ret
        exact ⟨ret_int (unhide He).symm, (by repeat (first | exact Bw.refl _ | assumption | refine Bw.drew ?_ | refine Bw.drewN ?_ _ | refine Bw.alloc ?_ _ | refine Bw.trans ?_ (by assumption)))⟩
      | false =>
        rw [hxy] at hny
        cases k4 : ((ndn ns n).kind == 4) with
        | true =>
          have He : Hid (comesI ns D n false s y = s + (D n y + 1)) := hide (by rw [unhide Hc, hxy, hdd, k4]; rfl)
          clear Hc hd
          go_enter Tryz.func68, Tryz.ntmps68
          go_wp2_with fail
          go_quiet (fail)
          go_wp2_with fail
          go_quiet (fail)
          go_wp2_with fail
          go_ret
          exact ⟨ret_int (unhide He).symm, (by repeat (first | exact Bw.refl _ | assumption | refine Bw.drew ?_ | refine Bw.drewN ?_ _ | refine Bw.alloc ?_ _ | refine Bw.trans ?_ (by assumption)))⟩
        | false =>
          have He : Hid (comesI ns D n false s y = s + D n y) := hide (by rw [unhide Hc, hxy, hdd, k4]; rfl)
          clear Hc hd
          go_enter Tryz.func68, Tryz.ntmps68
          go_wp2_with fail
          go_quiet (fail)
          go_wp2_with fail
          go_quiet (fail)
          go_wp2_with fail
          go_ret
          exact ⟨ret_int (unhide He).symm, (by repeat (first | exact Bw.refl _ | assumption | refine Bw.drew ?_ | refine Bw.drewN ?_ _ | refine Bw.alloc ?_ _ | refine Bw.trans ?_ (by assumption)))⟩
end Go.Proofs.YtfemleimkbjehaaGreat
namespace Go.Proofs.YtfemleimkbjehaaGreat
open Go.RowKit

/-- What is given may be given. -/
def GvOk (_ns : List Nd) (gv : List Gv) : Prop := gv.length ≤ 20 ∧ ∀ k, k < gv.length → I64 (gvn gv k).value

theorem come_64 {x : Nd} {f : Nat → List Int} (h : ∀ z ∈ inputsL x, I64L (f z.toNat)) : I64L (comeL x f) := by
  intro v hv
  unfold comeL at hv
  obtain ⟨z, hz, hv⟩ := List.mem_flatMap.1 hv
  exact h z hz v hv
theorem Good.val_64 {ns : List Nd} {r : Int} {q : List Int} (h : Good ns r q) {gv : List Gv} (hg : GvOk ns gv) (e : Nat) : ∀ s n, n < ns.length → I64L (valS ns gv e s n) := by
  intro s
  induction s with
  | zero =>
    intro n hn
    rw [h.val_fix gv e 0 hn]
    unfold putL
    split
    · exact srcTo_64 hg.2 _ _ _ _ (Nat.le_refl _)
    · split
      · refine come_64 fun z hz => ?_
        intro v hv; simp [prevS] at hv
      · exact nodeL_64 _ _
  | succ s ih =>
    intro n hn
    rw [h.val_fix gv e (s + 1) hn]
    unfold putL
    split
    · exact srcTo_64 hg.2 _ _ _ _ (Nat.le_refl _)
    · split
      · refine come_64 fun z hz => ?_
        obtain ⟨a, rfl, ha, _, _⟩ := h.inp hn hz
        exact ih a ha
      · exact nodeL_64 _ _
theorem Good.valD_bd {ns : List Nd} {r : Int} {q : List Int} (h : Good ns r q) {gv : List Gv} (hg : GvOk ns gv) (e s : Nat) {prev : Nat → List Int} (h2 : s = 0 → ∀ a, prev a = []) (h3 : ∀ s', s = s' + 1 → ∀ a, a < ns.length → (prev a).length ≤ bdB ns q s' a) :
    ∀ d n, n < ns.length → (valD ns gv e s prev d n).length ≤ bdB ns q s n := by
  intro d
  induction d with
  | zero => intro n _; simp [valD]
  | succ d ih => intro n hn; unfold valD; exact h.put_bd hg.1 hn ih h2 h3
theorem Good.val_bd {ns : List Nd} {r : Int} {q : List Int} (h : Good ns r q) {gv : List Gv} (hg : GvOk ns gv) (e : Nat) : ∀ s n, n < ns.length → (valS ns gv e s n).length ≤ bdB ns q s n := by
  intro s
  induction s with
  | zero => intro n hn; exact h.valD_bd hg e 0 (fun _ _ => rfl) (fun s' e => by omega) _ n hn
  | succ s ih => intro n hn; exact h.valD_bd hg e (s + 1) (fun e => by omega) (fun s' e a ha => by have : s' = s := by omega
                                                                                                   subst this; exact ih a ha) _ n hn
theorem Good.val_len {ns : List Nd} {r : Int} {q : List Int} (h : Good ns r q) {gv : List Gv} (hg : GvOk ns gv) (e : Nat) {s n : Nat} (hs : s ≤ 3) (hn : n < ns.length) : (valS ns gv e s n).length ≤ 81920 :=
  Nat.le_trans (h.val_bd hg e s n hn) (h.bd_le hs)
theorem flat_perm {l : List Int} {f g : Nat → List Int} (h : ∀ z ∈ l, (f z.toNat).Perm (g z.toNat)) : (l.flatMap fun z => f z.toNat).Perm (l.flatMap fun z => g z.toNat) := by
  induction l with
  | nil => simp
  | cons a t ih =>
    rw [List.flatMap_cons, List.flatMap_cons]
    exact (h a (by simp)).append (ih fun z hz => h z (by simp [hz]))
theorem come_perm {x : Nd} {f g : Nat → List Int} (h : ∀ z ∈ inputsL x, (f z.toNat).Perm (g z.toNat)) : (comeL x f).Perm (comeL x g) := flat_perm h

/-- One node of a round: what comes to it, and what it puts out. -/
theorem Good.step {ns : List Nd} {r : Int} {q : List Int} (h : Good ns r q) {gv : List Gv} (hg : GvOk ns gv) {e s n : Nat} (hs : s ≤ 3) (hn : n < ns.length) (h0 : (ndn ns n).kind ≠ 0) {F P : Nat → List Int}
    (hF : ∀ a, a < ns.length → rank q a < rank q n → (F a).Perm (valS ns gv e s a)) (hP : ∀ a, a < ns.length → (P a).Perm (prevS (valS ns gv e) s a)) :
    I64L (cameL (ndn ns n) F P) ∧ (cameL (ndn ns n) F P).length ≤ 200000 ∧ ∀ l : List Int, l.Perm (outL (ndn ns n) (cameL (ndn ns n) F P)) → l.Perm (valS ns gv e s n) := by
  have hin := fun z hz => h.inp hn (z := z) hz
  by_cases k4 : (ndn ns n).kind = 4
  · have k4b : ((ndn ns n).kind == 4) = true := by simp [k4]
    have k0b : ((ndn ns n).kind == 0) = false := by simp [k4]
    have hp : (comeL (ndn ns n) P).Perm (comeL (ndn ns n) (prevS (valS ns gv e) s)) := come_perm fun z hz => by
      obtain ⟨a, rfl, ha, _, _⟩ := hin z hz
      exact hP a ha
    have hv : valS ns gv e s n = comeL (ndn ns n) (prevS (valS ns gv e) s) := by
      rw [h.val_fix gv e s hn]; unfold putL; rw [k0b, k4b]; rfl
    have hc : cameL (ndn ns n) F P = comeL (ndn ns n) P := by unfold cameL; rw [k4b]; rfl
    rw [← hv] at hp
    rw [hc]
    refine ⟨fun v hv => h.val_64 hg e s n hn v (hp.mem_iff.1 hv), ?_, ?_⟩
    · rw [hp.length_eq]; have := h.val_len hg e hs hn; omega
    · intro l hl
      unfold outL at hl
      rw [k4b] at hl
      exact hl.trans hp
  · have k4b : ((ndn ns n).kind == 4) = false := by simp [k4]
    have k0b : ((ndn ns n).kind == 0) = false := by simp [h0]
    have hp : (comeL (ndn ns n) F).Perm (comeL (ndn ns n) (valS ns gv e s)) := come_perm fun z hz => by
      obtain ⟨a, rfl, ha, _, hr⟩ := hin z hz
      exact hF a ha (hr k4)
    have h64 : I64L (comeL (ndn ns n) (valS ns gv e s)) := come_64 fun z hz => by
      obtain ⟨a, rfl, ha, _, _⟩ := hin z hz
      exact h.val_64 hg e s a ha
    have hlen : (comeL (ndn ns n) (valS ns gv e s)).length ≤ 200000 := by
      by_cases k3 : (ndn ns n).kind = 3
      · have hil := inputs_3 k3
        obtain ⟨a, ea, ha, _, _⟩ := hin (ndn ns n).a (by rw [hil]; simp)
        obtain ⟨b, eb, hb, _, _⟩ := hin (ndn ns n).b (by rw [hil]; simp)
        unfold comeL
        rw [hil, ea, eb]
        have := h.val_len hg e hs ha
        have := h.val_len hg e hs hb
        simp
        omega
      · have hil := inputs_1 h0 k3
        obtain ⟨a, ea, ha, _, _⟩ := hin (ndn ns n).a (by rw [hil]; simp)
        unfold comeL
        rw [hil, ea]
        have := h.val_len hg e hs ha
        simp
        omega
    have hv : valS ns gv e s n = nodeL (ndn ns n) (comeL (ndn ns n) (valS ns gv e s)) := by
      rw [h.val_fix gv e s hn]; unfold putL; rw [k0b, k4b]; rfl
    have hc : cameL (ndn ns n) F P = comeL (ndn ns n) F := by unfold cameL; rw [k4b]; rfl
    have h64' : I64L (comeL (ndn ns n) F) := fun v hv => h64 v (hp.mem_iff.1 hv)
    rw [hc]
    refine ⟨h64', by rw [hp.length_eq]; exact hlen, ?_⟩
    intro l hl
    unfold outL at hl
    rw [k4b] at hl
    rw [hv]
    exact hl.trans (nodeL_perm hp h64')
theorem Good.src {ns : List Nd} {r : Int} {q : List Int} (h : Good ns r q) (gv : List Gv) (e s : Nat) {n : Nat} (hn : n < ns.length) (h0 : (ndn ns n).kind = 0) : valS ns gv e s n = srcL gv n e s := by
  rw [h.val_fix gv e s hn]; unfold putL; rw [if_pos (by simp [h0])]
theorem rank_at {q : List Int} (h : q.Nodup) {k n : Nat} (hk : k < q.length) (e : nth q k = n) : rank q n = k := by
  rw [nth_lt hk] at e
  rw [← e]
  unfold rank
  exact h.idxOf_getElem k hk
theorem Good.at_rank {ns : List Nd} {r : Int} {q : List Int} (h : Good ns r q) {n : Nat} (hn : n < ns.length) : nth q (rank q n) = n := by
  have h1 : rank q n < q.length := List.idxOf_lt_length_iff.2 (hasB_iff.1 (h.all n hn))
  rw [nth_lt h1]
  exact List.getElem_idxOf h1
theorem Good.qlen {ns : List Nd} {r : Int} {q : List Int} (h : Good ns r q) : q.length ≤ ns.length := by
  have := nodup_le (xs := q) (ys := upto ns.length) h.ok.nodup (fun z hz => mem_upto.2 (h.ok.range z hz))
  simpa [upto] using this
end Go.Proofs.YtfemleimkbjehaaGreat
namespace Go.Proofs.YtfemleimkbjehaaGreat
open Go.RowKit

theorem Tryz.infoInts : (Tryz.prog.info? 94).map (fun i => (i.zero, i.size, i.bytes)) = some (some (.slice none 0 0), 1, 24) := by kernel_rfl

theorem rowAt_made {W w : World} {g L : Nat} (hg : g = w.heap.size) : RowAt W (w.alloc (.cells (madeCells #[.slice none 0 0] L) 94)) g L (fun _ => []) := by
  subst hg
  refine ⟨_, heap_alloc_new w _, by simp [size_madeCells], fun j hj => ⟨.slice none 0 0, ?_, Own.nil _ _⟩⟩
  rw [← Array.getElem?_toList, toList_madeCells_one]
  simp [hj]
theorem make_row (n : Nat) (hn : n ≤ 1000) : ∀ w : World, (Instr.makeSlice 81 (.int .i64 (n : Int)) (.int .i64 (n : Int))).run Tryz.prog w = .ok (.slice (some ⟨w.heap.size, 0, none⟩) n n) (w.alloc (.cells (madeCells #[.slice none 0 0] n) 94)) := by
  intro w
  obtain ⟨i0, hi, hz0, hz1, hz2⟩ := info_parts Tryz.infoInts
  have hmk := run_make (P := Tryz.prog) w 81 94 i0 _ Tryz.underlying81 hi hz0 .i64 .i64 (n : Int) (n : Int) (by omega) (by omega) (by rw [hz2]; omega) (by omega)
  rw [Int.toNat_natCast, hz1, Nat.mul_one] at hmk
  exact hmk

end Go.Proofs.YtfemleimkbjehaaGreat
namespace Go.Proofs.YtfemleimkbjehaaGreat
open Go.RowKit

def timesIn (e : Nat) : Nat → List (Nat × Nat)
  | 0 => []
  | s + 1 => timesIn e s ++ [(e, s)]
def timesUp (R : Nat) : Nat → List (Nat × Nat)
  | 0 => []
  | e + 1 => timesUp R e ++ timesIn e R
theorem timesIn_len (e s : Nat) : (timesIn e s).length = s := by
  induction s with
  | zero => rfl
  | succ s ih => simp [timesIn, ih]
theorem timesUp_len (R e : Nat) : (timesUp R e).length = e * R := by
  induction e with
  | zero => simp [timesUp]
  | succ e ih => simp [timesUp, ih, timesIn_len, Nat.add_mul]
theorem timesIn_mem {e s : Nat} {t : Nat × Nat} (h : t ∈ timesIn e s) : t.1 = e ∧ t.2 < s := by
  induction s with
  | zero => simp [timesIn] at h
  | succ s ih =>
    rcases List.mem_append.1 h with h | h
    · obtain ⟨a, b⟩ := ih h; exact ⟨a, by omega⟩
    · simp at h; subst h; exact ⟨rfl, by simp⟩
theorem timesUp_mem {R e : Nat} {t : Nat × Nat} (h : t ∈ timesUp R e) : t.1 < e ∧ t.2 < R := by
  induction e with
  | zero => simp [timesUp] at h
  | succ e ih =>
    rcases List.mem_append.1 h with h | h
    · obtain ⟨a, b⟩ := ih h; exact ⟨by omega, b⟩
    · obtain ⟨a, b⟩ := timesIn_mem h; exact ⟨by omega, b⟩

def MosOk (ns : List Nd) (gv : List Gv) (ms : List Mo) (ts : List (Nat × Nat)) : Prop := ms.map (fun m => (m.e, m.s)) = ts ∧ ∀ m ∈ ms, ∀ n, n < ns.length → (m.F n).Perm (valS ns gv m.e m.s n)
theorem MosOk.snoc {ns : List Nd} {gv : List Gv} {ms : List Mo} {ts : List (Nat × Nat)} (h : MosOk ns gv ms ts) {e s g : Nat} {F : Nat → List Int} (hF : ∀ n, n < ns.length → (F n).Perm (valS ns gv e s n)) : MosOk ns gv (ms ++ [⟨e, s, g, F⟩]) (ts ++ [(e, s)]) := by
  refine ⟨by rw [List.map_append, h.1]; rfl, fun m hm => ?_⟩
  rcases List.mem_append.1 hm with hm | hm
  · exact h.2 m hm
  · simp at hm; subst hm; exact hF
theorem MosOk.len {ns : List Nd} {gv : List Gv} {ms : List Mo} {ts : List (Nat × Nat)} (h : MosOk ns gv ms ts) : ms.length = ts.length := by rw [← h.1]; simp
theorem cells3 {w : World} {g : Nat} {a b c : Value} (h0 : w.cell? ⟨g, 0, none⟩ = some a) (h1 : w.cell? ⟨g, 1, none⟩ = some b) (h2 : w.cell? ⟨g, 2, none⟩ = some c) : ∀ j u, [a, b, c][j]? = some u → w.cell? ⟨g, j, none⟩ = some u := by
  intro j u hj
  match j, hj with
  | 0, hj => simp at hj; subst hj; exact h0
  | 1, hj => simp at hj; subst hj; exact h1
  | 2, hj => simp at hj; subst hj; exact h2
theorem moCells_one (L : Nat) (m : Mo) : ∀ u ∈ moCells L m, u.oneCell' = true := by
  intro u hu
  simp [moCells] at hu
  rcases hu with rfl | rfl | rfl <;> rfl

end Go.Proofs.YtfemleimkbjehaaGreat
namespace Go.Proofs.YtfemleimkbjehaaGreat
open Go.RowKit

/-- What a Sink gets at a time, as records. -/
def recsAt (n e s : Nat) (l : List Int) : List Nd := l.map fun v => ⟨n, 0, e, s, v⟩
def srtL (l : List Int) : List Int := l.mergeSort (fun a b => decide (a ≤ b))
def recT (ns : List Nd) (gv : List Gv) (n : Nat) (ts : List (Nat × Nat)) : List Nd := ts.flatMap fun t => recsAt n t.1 t.2 (srtL (valS ns gv t.1 t.2 n))
def recN (ns : List Nd) (gv : List Gv) (R : Nat) : Nat → List Nd
  | 0 => []
  | n + 1 => recN ns gv R n ++ (if (ndn ns n).kind == 7 then recT ns gv n (timesUp R 6) else [])
theorem srt_uniq {r l : List Int} (hp : r.Perm l) (hs : r.Pairwise (· ≤ ·)) : r = srtL l := by
  have h1 : (srtL l).Pairwise (· ≤ ·) := by
    have := List.pairwise_mergeSort (le := fun a b : Int => decide (a ≤ b)) (by intro a b c; simp; omega) (by intro a b; simp; omega) l
    simpa [srtL] using this
  exact List.Perm.eq_of_pairwise (fun a b _ _ h1 h2 => Int.le_antisymm h1 h2) hs h1 (hp.trans (List.mergeSort_perm l _).symm)
theorem recsAt_len (n e s : Nat) (l : List Int) : (recsAt n e s l).length = l.length := by simp [recsAt]
theorem srtL_len (l : List Int) : (srtL l).length = l.length := (List.mergeSort_perm l _).length_eq
theorem recT_app (ns : List Nd) (gv : List Gv) (n : Nat) (a b : List (Nat × Nat)) : recT ns gv n (a ++ b) = recT ns gv n a ++ recT ns gv n b := by simp [recT]
theorem recT_one (ns : List Nd) (gv : List Gv) (n e s : Nat) : recT ns gv n [(e, s)] = recsAt n e s (srtL (valS ns gv e s n)) := by simp [recT]
theorem Good.recT_len {ns : List Nd} {r : Int} {q : List Int} (h : Good ns r q) {gv : List Gv} (hg : GvOk ns gv) {n : Nat} (hn : n < ns.length) : ∀ ts : List (Nat × Nat), (∀ t ∈ ts, t.2 ≤ 3) → (recT ns gv n ts).length ≤ ts.length * 81920 := by
  intro ts
  induction ts with
  | nil => intro _; simp [recT]
  | cons t l ih =>
    intro ht
    have h1 := ih fun x hx => ht x (by simp [hx])
    have h2 := h.val_len hg t.1 (ht t (by simp)) hn
    unfold recT at h1 ⊢
    rw [List.flatMap_cons, List.length_append, recsAt_len, srtL_len, List.length_cons]
    omega
set_option maxRecDepth 100000 in
theorem Good.recN_len {ns : List Nd} {r : Int} {q : List Int} (h : Good ns r q) {gv : List Gv} (hg : GvOk ns gv) {R : Nat} (hR : R ≤ 4) : ∀ n, n ≤ ns.length → (recN ns gv R n).length ≤ n * 1966080 := by
  intro n
  induction n with
  | zero => intro _; simp [recN]
  | succ n ih =>
    intro hn
    have h1 := ih (by omega)
    have h2 := h.recT_len hg (n := n) (by omega) (timesUp R 6) (fun t ht => by have := (timesUp_mem ht).2; omega)
    rw [timesUp_len] at h2
    have h3 : 6 * R * 81920 ≤ 1966080 := by omega
    unfold recN
    rw [List.length_append]
    split
    · omega
    · rw [List.length_nil, Nat.add_zero]; exact Nat.le_trans h1 (Nat.mul_le_mul_right _ (Nat.le_succ n))
theorem take_get {α : Type} {l : List α} {j : Nat} {x : α} (h : l[j]? = some x) : l.take (j + 1) = l.take j ++ [x] := by
  have hj := (List.getElem?_eq_some_iff.1 h).1
  rw [List.take_succ_eq_append_getElem hj, (List.getElem?_eq_some_iff.1 h).2]

def OwnR (W w : World) (v : Value) (xs : List Nd) : Prop := w.ownsRow W.heap.size 77 5 v xs.length (nodeCells xs)
theorem OwnR.nil (W w : World) : OwnR W w (.slice none 0 0) [] := World.ownsRow_nil _ _ _ _
theorem OwnR.bw {W a b : World} {v : Value} {ns : List Nd} (h : OwnR W a v ns) (hb : Bw a b) : OwnR W b v ns := ownsRow_bw h fun g hg => Below.block hb g hg
theorem OwnR.weaken {W V a : World} {v : Value} {ns : List Nd} (h : OwnR W a v ns) (hb : Bw V W) : OwnR V a v ns := ownsRow_weaken h hb.size
theorem OwnR.snoc {W w : World} {v : Value} {ns : List Nd} {x : Nd} (h : w.ownsRow W.heap.size 77 5 v (ns.length + 1) (nodeCells ns ++ x.cells)) : OwnR W w v (ns ++ [x]) := by
  unfold OwnR
  rw [nodeCells_snoc, List.length_append]
  exact h
theorem Own.grown {V w w' : World} {v u : Value} {base n size : Nat} {ty : TypeId} {xs : List Value} {ys : List Int} (h : Own V w u ys) (hown : w.ownsRow base ty size v n xs) (hg : w.grownBy w' v.ownBlock) (h2 : 3 ≠ ty) : Own V w' u ys := ownsRow_grown hown hg h h2
theorem cells5 {w : World} {g : Nat} {x : Nd} (h0 : w.cell? ⟨g, 0, none⟩ = some (.int .i64 x.kind)) (h1 : w.cell? ⟨g, 1, none⟩ = some (.int .i64 x.a)) (h2 : w.cell? ⟨g, 2, none⟩ = some (.int .i64 x.b)) (h3 : w.cell? ⟨g, 3, none⟩ = some (.int .i64 x.k)) (h4 : w.cell? ⟨g, 4, none⟩ = some (.int .i64 x.m)) : ∀ j u, x.cells[j]? = some u → w.cell? ⟨g, j, none⟩ = some u := by
  intro j u hj
  unfold Nd.cells at hj
  match j, hj with
  | 0, hj => simp at hj; subst hj; exact h0
  | 1, hj => simp at hj; subst hj; exact h1
  | 2, hj => simp at hj; subst hj; exact h2
  | 3, hj => simp at hj; subst hj; exact h3
  | 4, hj => simp at hj; subst hj; exact h4
theorem ndCells_one (x : Nd) : ∀ u ∈ x.cells, u.oneCell' = true := fun u hu => nodeCells_one [x] u (by simpa [nodeCells] using hu)

end Go.Proofs.YtfemleimkbjehaaGreat
namespace Go.Proofs.YtfemleimkbjehaaGreat
open Go.RowKit

/-- May this be given? -/
def givB (ns : List Nd) (x : Gv) : Bool := (isNodeB ns.length x.node && ((ndn ns x.node.toNat).kind == 0)) && (decide (0 ≤ x.epoch) && decide (x.epoch ≤ 5))
def givTo (ns : List Nd) (gv : List Gv) : Nat → Bool
  | 0 => true
  | k + 1 => givTo ns gv k && givB ns (gvn gv k)
def meanE (ns : List Nd) (r : Int) (gv : List Gv) : Int := if checkE ns r != 0 then checkE ns r else if decide (20 < gv.length) then 5 else if givTo ns gv gv.length then 0 else 3
def meanL (ns : List Nd) (r : Int) (gv : List Gv) : List Nd := if meanE ns r gv == 0 then recN ns gv r.toNat ns.length else []
theorem givTo_false {ns : List Nd} {gv : List Gv} {k : Nat} (h : givB ns (gvn gv k) = false) : ∀ n, k < n → givTo ns gv n = false := by
  intro n
  induction n with
  | zero => intro h; omega
  | succ n ih =>
    intro hk
    rw [givTo]
    by_cases e : k = n
    · subst e; rw [h]; simp
    · rw [ih (by omega)]; rfl
theorem givTo_true {ns : List Nd} {gv : List Gv} : ∀ n, (∀ k, k < n → givB ns (gvn gv k) = true) → givTo ns gv n = true := by
  intro n
  induction n with
  | zero => intro _; rfl
  | succ n ih => intro h; rw [givTo, ih fun k hk => h k (by omega), h n (by omega)]; rfl
theorem good_of {ns : List Nd} {r : Int} (h : checkE ns r = 0) : Good ns r (orderB ns) ∧ ∃ R : Nat, r = R ∧ 1 ≤ R ∧ R ≤ 4 := by
  unfold checkE at h
  split at h
  · rename_i hw
    split at h
    · simp at h
    · rename_i hl
      refine ⟨⟨hw, ordTo_ok ns ns.length, order_all hl⟩, r.toNat, ?_⟩
      simp [wfB] at hw
      omega
  · simp at h

set_option maxHeartbeats 1000000 in
theorem isOfKind_any (ns : List Nd) (ga : Option Addr) (gc : Nat) (r n kd : Int) (w : World) (hn : NodesAt w ga ns) (_hgl : ns.length ≤ maxLen) :
    Calls Tryz.prog 111 #[.agg #[.slice ga ns.length gc, .int .i64 r], .int .i64 n, .int .i64 kd] w fun e w' => e = .returned (.bool (isNodeB ns.length n && ((ndn ns n.toNat).kind == kd))) ∧ Bw w w' := by
  cases h1 : isNodeB ns.length n with
  | false =>
    have H1 := hide h1
    clear h1
    go_enter Tryz.func111, Tryz.ntmps111
    go_wp2_with (go_at_call 92; refine (isNode_any _ _ _ _ _ _).mono ?_; rintro e w' ⟨rfl, hbl⟩; rw [unhide H1]; obtain ⟨hcc, hff⟩ := bcell hbl; have hz0 : w.heap.size < w'.heap.size := (by have := hbl.size; (try simp at this); omega))
    go_ret
    exact ⟨ret_bool (by simp), (by repeat (first | exact Bw.refl _ | assumption | refine Bw.drew ?_ | refine Bw.drewN ?_ _ | refine Bw.alloc ?_ _ | refine Bw.trans ?_ (by assumption)))⟩
  | true =>
    have H1 := hide h1
    obtain ⟨b1, b2⟩ := isNodeB_iff.1 h1
    obtain ⟨k, rfl⟩ := Int.eq_ofNat_of_zero_le b1
    have hk : k < ns.length := by omega
    clear h1 b1 b2
    obtain ⟨b, off, rfl, hb, hc⟩ := hn k hk
    have c0 := (hc k hk).1
    clear hc
    rw [Int.toNat_natCast]
    go_enter Tryz.func111, Tryz.ntmps111
    go_wp2_with (go_at_call 92; refine (isNode_any _ _ _ _ _ _).mono ?_; rintro e w' ⟨rfl, hbl⟩; rw [unhide H1]; obtain ⟨hcc, hff⟩ := bcell hbl; have hz0 : w.heap.size < w'.heap.size := (by have := hbl.size; (try simp at this); omega); have hzb : b < w'.heap.size := (by omega))
    go_ret
    exact ⟨ret_bool (by simp), (by repeat (first | exact Bw.refl _ | assumption | refine Bw.drew ?_ | refine Bw.drewN ?_ _ | refine Bw.alloc ?_ _ | refine Bw.trans ?_ (by assumption)))⟩

theorem meanE_check {ns : List Nd} {r : Int} {gv : List Gv} (h : (checkE ns r != 0) = true) : meanE ns r gv = checkE ns r := by unfold meanE; rw [if_pos h]
theorem meanE_room {ns : List Nd} {r : Int} {gv : List Gv} (h : (checkE ns r != 0) = false) (h2 : 20 < gv.length) : meanE ns r gv = 5 := by unfold meanE; rw [if_neg (by rw [h]; decide), if_pos (by simpa using h2)]
theorem meanE_arg {ns : List Nd} {r : Int} {gv : List Gv} (h : (checkE ns r != 0) = false) (h2 : ¬ 20 < gv.length) (h3 : givTo ns gv gv.length = false) : meanE ns r gv = 3 := by unfold meanE; rw [if_neg (by rw [h]; decide), if_neg (by simpa using h2), if_neg (by rw [h3]; decide)]
theorem meanE_ok {ns : List Nd} {r : Int} {gv : List Gv} (h : (checkE ns r != 0) = false) (h2 : ¬ 20 < gv.length) (h3 : givTo ns gv gv.length = true) : meanE ns r gv = 0 := by unfold meanE; rw [if_neg (by rw [h]; decide), if_neg (by simpa using h2), if_pos h3]
theorem meanL_no {ns : List Nd} {r : Int} {gv : List Gv} (h : meanE ns r gv ≠ 0) : meanL ns r gv = [] := by unfold meanL; rw [if_neg (by simpa using h)]
theorem meanL_ok {ns : List Nd} {r : Int} {gv : List Gv} (h : meanE ns r gv = 0) : meanL ns r gv = recN ns gv r.toNat ns.length := by unfold meanL; rw [if_pos (by simp [h])]

/-- What Meaning answers. -/
def MeanOk (w w' : World) (e : Ending) (ns : List Nd) (r : Int) (gv : List Gv) : Prop := ∃ v, e = .returned (.tuple #[v, .int .i64 (meanE ns r gv)]) ∧ OwnR w w' v (meanL ns r gv) ∧ Bw w w'
theorem MeanOk.err {w w' : World} {ns : List Nd} {r c : Int} {gv : List Gv} (h : meanE ns r gv = c) (hc : c ≠ 0) (hb : Bw w w') : MeanOk w w' (.returned (.tuple #[.slice none 0 0, .int .i64 c])) ns r gv :=
  ⟨_, by rw [h], by rw [meanL_no (by rw [h]; exact hc)]; exact OwnR.nil _ _, hb⟩

end Go.Proofs.YtfemleimkbjehaaGreat
