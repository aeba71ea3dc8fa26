import Derived.Test.YtfemleimkbjehaaMean1
namespace Go.Proofs.Ytfemleimkbjehaa
open Go.RowKit

/-- What is given may be given. -/
def GvOk (_ns : List Nd) (gv : List Gv) : Prop := gv.length ≤ 20 ∧ ∀ k, k < gv.length → I64 (gvn gv k).value

theorem come_64 {x : Nd} {f : Nat → List Int} (h : ∀ z ∈ inputsL x, I64L (f z.toNat)) : I64L (comeL x f) := by
  intro v hv
  unfold comeL at hv
  obtain ⟨z, hz, hv⟩ := List.mem_flatMap.1 hv
  exact h z hz v hv
theorem Good.val_64 {ns : List Nd} {r : Int} {q : List Int} (h : Good ns r q) {gv : List Gv} (hg : GvOk ns gv) (e : Nat) : ∀ s n, n < ns.length → I64L (valS ns gv e s n) := by
  intro s
  induction s with
  | zero =>
    intro n hn
    rw [h.val_fix gv e 0 hn]
    unfold putL
    split
    · exact srcTo_64 hg.2 _ _ _ _ (Nat.le_refl _)
    · split
      · refine come_64 fun z hz => ?_
        intro v hv; simp [prevS] at hv
      · exact nodeL_64 _ _
  | succ s ih =>
    intro n hn
    rw [h.val_fix gv e (s + 1) hn]
    unfold putL
    split
    · exact srcTo_64 hg.2 _ _ _ _ (Nat.le_refl _)
    · split
      · refine come_64 fun z hz => ?_
        obtain ⟨a, rfl, ha, _, _⟩ := h.inp hn hz
        exact ih a ha
      · exact nodeL_64 _ _
theorem Good.valD_bd {ns : List Nd} {r : Int} {q : List Int} (h : Good ns r q) {gv : List Gv} (hg : GvOk ns gv) (e s : Nat) {prev : Nat → List Int} (h2 : s = 0 → ∀ a, prev a = []) (h3 : ∀ s', s = s' + 1 → ∀ a, a < ns.length → (prev a).length ≤ bdB ns q s' a) :
    ∀ d n, n < ns.length → (valD ns gv e s prev d n).length ≤ bdB ns q s n := by
  intro d
  induction d with
  | zero => intro n _; simp [valD]
  | succ d ih => intro n hn; unfold valD; exact h.put_bd hg.1 hn ih h2 h3
theorem Good.val_bd {ns : List Nd} {r : Int} {q : List Int} (h : Good ns r q) {gv : List Gv} (hg : GvOk ns gv) (e : Nat) : ∀ s n, n < ns.length → (valS ns gv e s n).length ≤ bdB ns q s n := by
  intro s
  induction s with
  | zero => intro n hn; exact h.valD_bd hg e 0 (fun _ _ => rfl) (fun s' e => by omega) _ n hn
  | succ s ih => intro n hn; exact h.valD_bd hg e (s + 1) (fun e => by omega) (fun s' e a ha => by have : s' = s := by omega
                                                                                                   subst this; exact ih a ha) _ n hn
theorem Good.val_len {ns : List Nd} {r : Int} {q : List Int} (h : Good ns r q) {gv : List Gv} (hg : GvOk ns gv) (e : Nat) {s n : Nat} (hs : s ≤ 3) (hn : n < ns.length) : (valS ns gv e s n).length ≤ 81920 :=
  Nat.le_trans (h.val_bd hg e s n hn) (h.bd_le hs)
theorem flat_perm {l : List Int} {f g : Nat → List Int} (h : ∀ z ∈ l, (f z.toNat).Perm (g z.toNat)) : (l.flatMap fun z => f z.toNat).Perm (l.flatMap fun z => g z.toNat) := by
  induction l with
  | nil => simp
  | cons a t ih =>
    rw [List.flatMap_cons, List.flatMap_cons]
    exact (h a (by simp)).append (ih fun z hz => h z (by simp [hz]))
theorem come_perm {x : Nd} {f g : Nat → List Int} (h : ∀ z ∈ inputsL x, (f z.toNat).Perm (g z.toNat)) : (comeL x f).Perm (comeL x g) := flat_perm h

/-- One node of a round: what comes to it, and what it puts out. -/
theorem Good.step {ns : List Nd} {r : Int} {q : List Int} (h : Good ns r q) {gv : List Gv} (hg : GvOk ns gv) {e s n : Nat} (hs : s ≤ 3) (hn : n < ns.length) (h0 : (ndn ns n).kind ≠ 0) {F P : Nat → List Int}
    (hF : ∀ a, a < ns.length → rank q a < rank q n → (F a).Perm (valS ns gv e s a)) (hP : ∀ a, a < ns.length → (P a).Perm (prevS (valS ns gv e) s a)) :
    I64L (cameL (ndn ns n) F P) ∧ (cameL (ndn ns n) F P).length ≤ 200000 ∧ ∀ l : List Int, l.Perm (outL (ndn ns n) (cameL (ndn ns n) F P)) → l.Perm (valS ns gv e s n) := by
  have hin := fun z hz => h.inp hn (z := z) hz
  by_cases k4 : (ndn ns n).kind = 4
  · have k4b : ((ndn ns n).kind == 4) = true := by simp [k4]
    have k0b : ((ndn ns n).kind == 0) = false := by simp [k4]
    have hp : (comeL (ndn ns n) P).Perm (comeL (ndn ns n) (prevS (valS ns gv e) s)) := come_perm fun z hz => by
      obtain ⟨a, rfl, ha, _, _⟩ := hin z hz
      exact hP a ha
    have hv : valS ns gv e s n = comeL (ndn ns n) (prevS (valS ns gv e) s) := by
      rw [h.val_fix gv e s hn]; unfold putL; rw [k0b, k4b]; rfl
    have hc : cameL (ndn ns n) F P = comeL (ndn ns n) P := by unfold cameL; rw [k4b]; rfl
    rw [← hv] at hp
    rw [hc]
    refine ⟨fun v hv => h.val_64 hg e s n hn v (hp.mem_iff.1 hv), ?_, ?_⟩
    · rw [hp.length_eq]; have := h.val_len hg e hs hn; omega
    · intro l hl
      unfold outL at hl
      rw [k4b] at hl
      exact hl.trans hp
  · have k4b : ((ndn ns n).kind == 4) = false := by simp [k4]
    have k0b : ((ndn ns n).kind == 0) = false := by simp [h0]
    have hp : (comeL (ndn ns n) F).Perm (comeL (ndn ns n) (valS ns gv e s)) := come_perm fun z hz => by
      obtain ⟨a, rfl, ha, _, hr⟩ := hin z hz
      exact hF a ha (hr k4)
    have h64 : I64L (comeL (ndn ns n) (valS ns gv e s)) := come_64 fun z hz => by
      obtain ⟨a, rfl, ha, _, _⟩ := hin z hz
      exact h.val_64 hg e s a ha
    have hlen : (comeL (ndn ns n) (valS ns gv e s)).length ≤ 200000 := by
      by_cases k3 : (ndn ns n).kind = 3
      · have hil := inputs_3 k3
        obtain ⟨a, ea, ha, _, _⟩ := hin (ndn ns n).a (by rw [hil]; simp)
        obtain ⟨b, eb, hb, _, _⟩ := hin (ndn ns n).b (by rw [hil]; simp)
        unfold comeL
        rw [hil, ea, eb]
        have := h.val_len hg e hs ha
        have := h.val_len hg e hs hb
        simp
        omega
      · have hil := inputs_1 h0 k3
        obtain ⟨a, ea, ha, _, _⟩ := hin (ndn ns n).a (by rw [hil]; simp)
        unfold comeL
        rw [hil, ea]
        have := h.val_len hg e hs ha
        simp
        omega
    have hv : valS ns gv e s n = nodeL (ndn ns n) (comeL (ndn ns n) (valS ns gv e s)) := by
      rw [h.val_fix gv e s hn]; unfold putL; rw [k0b, k4b]; rfl
    have hc : cameL (ndn ns n) F P = comeL (ndn ns n) F := by unfold cameL; rw [k4b]; rfl
    have h64' : I64L (comeL (ndn ns n) F) := fun v hv => h64 v (hp.mem_iff.1 hv)
    rw [hc]
    refine ⟨h64', by rw [hp.length_eq]; exact hlen, ?_⟩
    intro l hl
    unfold outL at hl
    rw [k4b] at hl
    rw [hv]
    exact hl.trans (nodeL_perm hp h64')
theorem Good.src {ns : List Nd} {r : Int} {q : List Int} (h : Good ns r q) (gv : List Gv) (e s : Nat) {n : Nat} (hn : n < ns.length) (h0 : (ndn ns n).kind = 0) : valS ns gv e s n = srcL gv n e s := by
  rw [h.val_fix gv e s hn]; unfold putL; rw [if_pos (by simp [h0])]
theorem rank_at {q : List Int} (h : q.Nodup) {k n : Nat} (hk : k < q.length) (e : nth q k = n) : rank q n = k := by
  rw [nth_lt hk] at e
  rw [← e]
  unfold rank
  exact h.idxOf_getElem k hk
theorem Good.at_rank {ns : List Nd} {r : Int} {q : List Int} (h : Good ns r q) {n : Nat} (hn : n < ns.length) : nth q (rank q n) = n := by
  have h1 : rank q n < q.length := List.idxOf_lt_length_iff.2 (hasB_iff.1 (h.all n hn))
  rw [nth_lt h1]
  exact List.getElem_idxOf h1
theorem Good.qlen {ns : List Nd} {r : Int} {q : List Int} (h : Good ns r q) : q.length ≤ ns.length := by
  have := nodup_le (xs := q) (ys := upto ns.length) h.ok.nodup (fun z hz => mem_upto.2 (h.ok.range z hz))
  simpa [upto] using this
end Go.Proofs.Ytfemleimkbjehaa
