import Derived.Test.YtfemleimkbjehaaGreatJ11
import Derived.Test.YtfemleimkbjehaaGreatJ10
namespace Go.Proofs.YtfemleimkbjehaaGreat
set_option linter.unusedVariables false
set_option linter.unusedSimpArgs false
open Go.RowKit

/-- What a Source is given. -/
structure Gv where
  node : Int
  epoch : Int
  value : Int
def gvn (gv : List Gv) (k : Nat) : Gv := gv.getD k ⟨0, 0, 0⟩
def srcB (gv : List Gv) (n e s i : Nat) : Bool := (s == 0) && ((gvn gv i).node == (n : Int)) && ((gvn gv i).epoch == (e : Int))
def srcTo (gv : List Gv) (n e s : Nat) : Nat → List Int
  | 0 => []
  | i + 1 => if srcB gv n e s i then srcTo gv n e s i ++ [(gvn gv i).value] else srcTo gv n e s i
def srcL (gv : List Gv) (n e s : Nat) : List Int := srcTo gv n e s gv.length
theorem srcTo_len (gv : List Gv) (n e s k : Nat) : (srcTo gv n e s k).length ≤ k := by
  induction k with
  | zero => simp [srcTo]
  | succ k ih => unfold srcTo; split <;> (try simp) <;> omega
theorem srcTo_yes {gv : List Gv} {n e s i : Nat} (h : srcB gv n e s i = true) : srcTo gv n e s (i + 1) = srcTo gv n e s i ++ [(gvn gv i).value] := by rw [srcTo, if_pos h]
theorem srcTo_no {gv : List Gv} {n e s i : Nat} (h : srcB gv n e s i = false) : srcTo gv n e s (i + 1) = srcTo gv n e s i := by rw [srcTo, h]; rfl
theorem srcTo_64 {gv : List Gv} (h : ∀ k, k < gv.length → I64 (gvn gv k).value) (n e s : Nat) : ∀ k, k ≤ gv.length → I64L (srcTo gv n e s k) := by
  intro k
  induction k with
  | zero => intro _ v hv; simp [srcTo] at hv
  | succ k ih =>
    intro hk
    unfold srcTo
    split
    · intro v hv
      rcases List.mem_append.1 hv with hv | hv
      · exact ih (by omega) v hv
      · simp at hv; subst hv; exact h k (by omega)
    · exact ih (by omega)

def comeL (x : Nd) (cur : Nat → List Int) : List Int := (inputsL x).flatMap fun z => cur z.toNat
def putL (ns : List Nd) (gv : List Gv) (e s n : Nat) (cur prev : Nat → List Int) : List Int :=
  if (ndn ns n).kind == 0 then srcL gv n e s else if (ndn ns n).kind == 4 then comeL (ndn ns n) prev else nodeL (ndn ns n) (comeL (ndn ns n) cur)
def valD (ns : List Nd) (gv : List Gv) (e s : Nat) (prev : Nat → List Int) : Nat → Nat → List Int
  | 0, _ => []
  | d + 1, n => putL ns gv e s n (valD ns gv e s prev d) prev
/-- What a node puts out at a time. -/
def valS (ns : List Nd) (gv : List Gv) (e : Nat) : Nat → Nat → List Int
  | 0 => valD ns gv e 0 (fun _ => []) ns.length
  | s + 1 => valD ns gv e (s + 1) (valS ns gv e s) ns.length
def prevS (F : Nat → Nat → List Int) : Nat → Nat → List Int
  | 0 => fun _ => []
  | s + 1 => F s
theorem valS_eq (ns : List Nd) (gv : List Gv) (e s : Nat) : valS ns gv e s = valD ns gv e s (prevS (valS ns gv e) s) ns.length := by cases s <;> rfl

structure Good (ns : List Nd) (r : Int) (q : List Int) : Prop where
  wf : wfB ns r = true
  ok : OrdOk ns q
  all : ∀ k, k < ns.length → hasB q k = true

theorem takes_in {x : Nd} {z : Int} (h : z ∈ inputsL x) : takesB x z = true := by
  unfold inputsL at h
  unfold takesB
  split at h
  · simp at h
  · rename_i h0
    split at h
    · rename_i h3
      simp at h
      simp at h0 h3
      simp [h3]
      rcases h with h | h
      · exact .inl h.symm
      · exact .inr h.symm
    · simp at h
      simp at h0
      simp [h0, h]
theorem wf_input7 {ns : List Nd} {r : Int} (h : wfB ns r = true) {k : Nat} (hk : k < ns.length) {n : Int} (hn : n ∈ inputsL (ndn ns k)) : ∃ a : Nat, n = a ∧ a < ns.length ∧ (ndn ns a).kind ≠ 7 := by
  have h1 : wfTo ns ns.length = true := by simp [wfB] at h; exact h.1.2
  have h2 := wfTo_get h1 k hk
  rw [wfNode_eq] at h2
  simp only [Bool.and_eq_true] at h2
  have h3 := h2.2
  unfold inB at h3
  rw [List.all_eq_true] at h3
  have := h3 n hn
  simp [cbtfB] at this
  obtain ⟨b1, b2⟩ := isNodeB_iff.1 this.1
  obtain ⟨a, rfl⟩ := Int.eq_ofNat_of_zero_le b1
  exact ⟨a, rfl, by omega, by simpa using this.2⟩
theorem Good.inp {ns : List Nd} {r : Int} {q : List Int} (h : Good ns r q) {k : Nat} (hk : k < ns.length) {z : Int} (hz : z ∈ inputsL (ndn ns k)) : ∃ a : Nat, z = a ∧ a < ns.length ∧ (ndn ns a).kind ≠ 7 ∧ ((ndn ns k).kind ≠ 4 → rank q a < rank q k) := by
  obtain ⟨a, rfl, ha, h7⟩ := wf_input7 h.wf hk hz
  exact ⟨a, rfl, ha, h7, fun h4 => rank_lt h.ok (h.all k hk) (takes_in hz) h4⟩
theorem Good.rk {ns : List Nd} {r : Int} {q : List Int} (h : Good ns r q) {k : Nat} (hk : k < ns.length) : rank q k < ns.length := by
  have h1 : rank q k < q.length := List.idxOf_lt_length_iff.2 (hasB_iff.1 (h.all k hk))
  have h2 : q.length ≤ ns.length := by
    have := nodup_le (xs := q) (ys := upto ns.length) h.ok.nodup (fun z hz => mem_upto.2 (h.ok.range z hz))
    simpa [upto] using this
  omega
theorem come_congr {x : Nd} {f g : Nat → List Int} (h : ∀ z ∈ inputsL x, f z.toNat = g z.toNat) : comeL x f = comeL x g := by
  unfold comeL
  rw [List.flatMap_def, List.flatMap_def, List.map_congr_left h]
theorem put_congr {ns : List Nd} {gv : List Gv} {e s n : Nat} {f g f' g' : Nat → List Int} (h : (ndn ns n).kind ≠ 4 → ∀ z ∈ inputsL (ndn ns n), f z.toNat = g z.toNat) (h' : (ndn ns n).kind = 4 → ∀ z ∈ inputsL (ndn ns n), f' z.toNat = g' z.toNat) :
    putL ns gv e s n f f' = putL ns gv e s n g g' := by
  unfold putL
  split
  · rfl
  · split
    · rename_i h4; exact come_congr (h' (by simpa using h4))
    · rename_i h4; rw [come_congr (h (by simpa using h4))]
theorem Good.valD_same {ns : List Nd} {r : Int} {q : List Int} (h : Good ns r q) (gv : List Gv) (e s : Nat) (prev : Nat → List Int) : ∀ d d' n, n < ns.length → rank q n < d → rank q n < d' → valD ns gv e s prev d n = valD ns gv e s prev d' n := by
  intro d
  induction d with
  | zero => intro d' n _ hd; omega
  | succ d ih =>
    intro d' n hn hd hd'
    obtain ⟨d2, rfl⟩ : ∃ d2, d' = d2 + 1 := ⟨d' - 1, by omega⟩
    unfold valD
    refine put_congr (fun h4 z hz => ?_) (fun _ _ _ => rfl)
    obtain ⟨a, rfl, ha, _, hr⟩ := h.inp hn hz
    have := hr h4
    rw [Int.toNat_natCast]
    exact ih d2 a ha (by omega) (by omega)
theorem Good.val_fix {ns : List Nd} {r : Int} {q : List Int} (h : Good ns r q) (gv : List Gv) (e s : Nat) {n : Nat} (hn : n < ns.length) : valS ns gv e s n = putL ns gv e s n (valS ns gv e s) (prevS (valS ns gv e) s) := by
  have hr := h.rk hn
  conv => lhs; rw [valS_eq, h.valD_same gv e s _ ns.length (ns.length + 1) n hn hr (by omega)]
  unfold valD
  rw [← valS_eq]

/-- The bound of what a node puts out in a round: as many Merges as lie ahead of it double it. -/
def isMg (ns : List Nd) (z : Int) : Bool := (ndn ns z.toNat).kind == 3
def mcB (ns : List Nd) (q : List Int) (k : Nat) : Nat := ((q.take k).filter (isMg ns)).length
def bdB (ns : List Nd) (q : List Int) (s n : Nat) : Nat := 20 * 8 ^ s * 2 ^ mcB ns q (rank q n + 1)
theorem mc_mono (ns : List Nd) (q : List Int) {i j : Nat} (h : i ≤ j) : mcB ns q i ≤ mcB ns q j := by
  unfold mcB
  refine List.Sublist.length_le (List.Sublist.filter _ ?_)
  rw [show i = min i j by omega, ← List.take_take]
  exact List.take_sublist _ _
theorem mg_upto (ns : List Nd) : ∀ k, ((upto k).filter (isMg ns)).length = mgTo ns k := by
  intro k
  induction k with
  | zero => simp [upto, mgTo]
  | succ k ih =>
    unfold upto at ih ⊢
    rw [List.range_succ, List.map_append, List.filter_append, List.length_append, ih]
    rw [mgTo, List.map_cons, List.map_nil, List.filter_cons, List.filter_nil]
    have e : isMg ns (Int.ofNat k) = ((ndn ns k).kind == 3) := rfl
    rw [e]
    split <;> simp
theorem Good.mc_le {ns : List Nd} {r : Int} {q : List Int} (h : Good ns r q) (k : Nat) : mcB ns q k ≤ 3 := by
  have h1 : mcB ns q k ≤ (q.filter (isMg ns)).length := List.Sublist.length_le (List.Sublist.filter _ (List.take_sublist _ _))
  have h2 : (q.filter (isMg ns)).length ≤ ((upto ns.length).filter (isMg ns)).length := nodup_le (h.ok.nodup.filter _) (by
    intro z hz
    rw [List.mem_filter] at hz ⊢
    exact ⟨mem_upto.2 (h.ok.range z hz.1), hz.2⟩)
  rw [mg_upto] at h2
  have h3 := h.wf
  simp [wfB] at h3
  omega
theorem Good.mc_merge {ns : List Nd} {r : Int} {q : List Int} (h : Good ns r q) {n : Nat} (hn : n < ns.length) (h3 : (ndn ns n).kind = 3) : mcB ns q (rank q n + 1) = mcB ns q (rank q n) + 1 := by
  have hm := hasB_iff.1 (h.all n hn)
  have h1 : rank q n < q.length := List.idxOf_lt_length_iff.2 hm
  have he : q[rank q n] = (n : Int) := List.getElem_idxOf h1
  unfold mcB
  rw [List.take_succ_eq_append_getElem h1, List.filter_append, List.length_append, he]
  simp [isMg, h3]
theorem Good.bd_le {ns : List Nd} {r : Int} {q : List Int} (h : Good ns r q) {s n : Nat} (hs : s ≤ 3) : bdB ns q s n ≤ 81920 := by
  unfold bdB
  have h1 : 8 ^ s ≤ 8 ^ 3 := Nat.pow_le_pow_right (by omega) hs
  have h2 : 2 ^ mcB ns q (rank q n + 1) ≤ 2 ^ 3 := Nat.pow_le_pow_right (by omega) (h.mc_le _)
  calc 20 * 8 ^ s * 2 ^ mcB ns q (rank q n + 1) ≤ 20 * 8 ^ 3 * 2 ^ 3 := Nat.mul_le_mul (Nat.mul_le_mul_left _ h1) h2
    _ = 81920 := by decide
theorem bd_pos (ns : List Nd) (q : List Int) (s n : Nat) : 20 ≤ bdB ns q s n := by
  unfold bdB
  have h1 : 1 ≤ 8 ^ s := Nat.one_le_pow _ _ (by omega)
  have h2 : 1 ≤ 2 ^ mcB ns q (rank q n + 1) := Nat.one_le_pow _ _ (by omega)
  calc 20 = 20 * 1 * 1 := rfl
    _ ≤ _ := Nat.mul_le_mul (Nat.mul_le_mul_left _ h1) h2
theorem Good.sum8 {ns : List Nd} {r : Int} {q : List Int} (h : Good ns r q) {n : Nat} (hn : n < ns.length) (h6 : (ndn ns n).kind = 6) : 1 ≤ (ndn ns n).k ∧ (ndn ns n).k ≤ 8 := by
  have h1 : wfTo ns ns.length = true := by have := h.wf; simp [wfB] at this; exact this.1.2
  have h2 := wfTo_get h1 n hn
  unfold wfNodeB at h2
  simp [h6] at h2
  exact ⟨h2.2.2.2.1, h2.2.2.2.2⟩
theorem Good.pass {ns : List Nd} {r : Int} {q : List Int} (h : Good ns r q) {n : Nat} (hn : n < ns.length) (h6 : (ndn ns n).kind = 2) : 1 ≤ (ndn ns n).k ∧ (ndn ns n).k ≤ 100 := by
  have h1 : wfTo ns ns.length = true := by have := h.wf; simp [wfB] at this; exact this.1.2
  have h2 := wfTo_get h1 n hn
  unfold wfNodeB at h2
  simp [h6] at h2
  omega

theorem Good.put_bd {ns : List Nd} {r : Int} {q : List Int} (h : Good ns r q) {gv : List Gv} (hg : gv.length ≤ 20) {e s n : Nat} (hn : n < ns.length) {cur prev : Nat → List Int}
    (h1 : ∀ a, a < ns.length → (cur a).length ≤ bdB ns q s a) (h2 : s = 0 → ∀ a, prev a = []) (h3 : ∀ s', s = s' + 1 → ∀ a, a < ns.length → (prev a).length ≤ bdB ns q s' a) :
    (putL ns gv e s n cur prev).length ≤ bdB ns q s n := by
  have hp := bd_pos ns q s n
  have hin := fun z hz => h.inp hn (z := z) hz
  unfold putL
  split
  · exact Nat.le_trans (srcTo_len _ _ _ _ _) (by omega)
  · rename_i k0
    split
    · rename_i k4
      have k4' : (ndn ns n).kind = 4 := by simpa using k4
      have hil : inputsL (ndn ns n) = [(ndn ns n).a] := by simp [inputsL, k4']
      obtain ⟨a, ea, ha, _, _⟩ := hin (ndn ns n).a (by rw [hil]; simp)
      have hc : comeL (ndn ns n) prev = prev a := by unfold comeL; rw [hil, ea]; simp
      rw [hc]
      cases s with
      | zero => rw [h2 rfl]; simp
      | succ s' =>
        refine Nat.le_trans (h3 s' rfl a ha) ?_
        unfold bdB
        have e1 : 2 ^ mcB ns q (rank q a + 1) ≤ 2 ^ 3 := Nat.pow_le_pow_right (by omega) (h.mc_le _)
        have e2 : 1 ≤ 2 ^ mcB ns q (rank q n + 1) := Nat.one_le_pow _ _ (by omega)
        calc 20 * 8 ^ s' * 2 ^ mcB ns q (rank q a + 1) ≤ 20 * 8 ^ s' * 2 ^ 3 := Nat.mul_le_mul_left _ e1
          _ = 20 * 8 ^ (s' + 1) * 1 := by rw [Nat.mul_one, Nat.mul_assoc, show (8 : Nat) ^ (s' + 1) = 8 ^ s' * 8 from Nat.pow_succ ..]
          _ ≤ _ := Nat.mul_le_mul_left _ e2
    · rename_i k4
      have k4' : (ndn ns n).kind ≠ 4 := by simpa using k4
      have key : (comeL (ndn ns n) cur).length ≤ bdB ns q s n := by
        by_cases k3 : (ndn ns n).kind = 3
        · have hil : inputsL (ndn ns n) = [(ndn ns n).a, (ndn ns n).b] := by simp [inputsL, k3]
          obtain ⟨a, ea, ha, _, ra⟩ := hin (ndn ns n).a (by rw [hil]; simp)
          obtain ⟨b, eb, hb, _, rb⟩ := hin (ndn ns n).b (by rw [hil]; simp)
          have ra := ra k4'
          have rb := rb k4'
          have hc : comeL (ndn ns n) cur = cur a ++ cur b := by unfold comeL; rw [hil, ea, eb]; simp
          rw [hc, List.length_append]
          have b1 := h1 a ha
          have b2 := h1 b hb
          have hm := h.mc_merge hn k3
          have p1 : bdB ns q s a ≤ 20 * 8 ^ s * 2 ^ mcB ns q (rank q n) := Nat.mul_le_mul_left _ (Nat.pow_le_pow_right (by omega) (mc_mono ns q (by omega)))
          have p2 : bdB ns q s b ≤ 20 * 8 ^ s * 2 ^ mcB ns q (rank q n) := Nat.mul_le_mul_left _ (Nat.pow_le_pow_right (by omega) (mc_mono ns q (by omega)))
          unfold bdB at *
          rw [hm, Nat.pow_succ, ← Nat.mul_assoc]
          omega
        · have hil : inputsL (ndn ns n) = [(ndn ns n).a] := by
            have k0' : (ndn ns n).kind ≠ 0 := by simpa using k0
            simp [inputsL, k3, k0']
          obtain ⟨a, ea, ha, _, ra⟩ := hin (ndn ns n).a (by rw [hil]; simp)
          have ra := ra k4'
          have hc : comeL (ndn ns n) cur = cur a := by unfold comeL; rw [hil, ea]; simp
          rw [hc]
          refine Nat.le_trans (h1 a ha) (Nat.mul_le_mul_left _ (Nat.pow_le_pow_right (by omega) (mc_mono ns q (by omega))))
      rcases nodeL_len (x := ndn ns n) (l := comeL (ndn ns n) cur) (fun h6 => (h.sum8 hn h6).2) with hh | hh
      · omega
      · omega
end Go.Proofs.YtfemleimkbjehaaGreat
namespace Go.Proofs.YtfemleimkbjehaaGreat
set_option linter.unusedVariables false
set_option linter.unusedSimpArgs false
open Go.RowKit

theorem take_len_le {l : List Int} {i : Nat} (h : i ≤ l.length) : (l.take i).length = i := by simp; omega
theorem nth_take {l : List Int} {i j : Nat} (hj : j < i) (h : i ≤ l.length) : nth (l.take i) j = nth l j := by
  rw [nth_lt (by simp; omega), nth_lt (by omega)]; simp
theorem has_yes {l : List Int} {v : Int} {i k : Nat} (hk : k < i) (hi : i ≤ l.length) (h : (nth l k == v) = true) : hasB (l.take i) v = true :=
  hasB_yes (k := k) (by rw [take_len_le hi]; exact hk) (by rw [nth_take hk hi]; exact h)
theorem has_no {l : List Int} {v : Int} {i : Nat} (hi : i ≤ l.length) (h : ∀ j, j < i → (nth l j == v) = false) : hasB (l.take i) v = false :=
  hasB_no fun j hj => by rw [take_len_le hi] at hj; rw [nth_take hj hi]; exact h j hj

set_option maxHeartbeats 1000000 in
theorem addend_any (x : Nd) (w : World) : Calls Tryz.prog 102 #[x.val] w fun e w' => e = .returned (.int .i64 (addB x)) ∧ Bw w w' := by
  unfold Nd.val
  cases h1 : (x.kind == 1) with
  | true =>
    have Ha : Hid (addB x = x.k) := hide (by unfold addB; rw [if_pos h1])
    go_enter Tryz.func102, Tryz.ntmps102
    go_wp2
    go_ret
    exact ⟨ret_int (unhide Ha).symm, (by repeat (first | exact Bw.refl _ | assumption | refine Bw.drew ?_ | refine Bw.drewN ?_ _ | refine Bw.alloc ?_ _ | refine Bw.trans ?_ (by assumption)))⟩
  | false =>
    have Ha : Hid (addB x = 0) := hide (by unfold addB; rw [if_neg (by rw [h1]; decide)])
    go_enter Tryz.func102, Tryz.ntmps102
    go_wp2
    go_ret
    exact ⟨ret_int (unhide Ha).symm, (by repeat (first | exact Bw.refl _ | assumption | refine Bw.drew ?_ | refine Bw.drewN ?_ _ | refine Bw.alloc ?_ _ | refine Bw.trans ?_ (by assumption)))⟩

def gcntTo (xs : List Int) (q : Int) (g : Nat) : Nat → Nat
  | 0 => 0
  | k + 1 => if nth xs k % q == g then gcntTo xs q g k + 1 else gcntTo xs q g k
theorem gcnt_le (xs : List Int) (q : Int) (g k : Nat) : gcntTo xs q g k ≤ k := by
  induction k with
  | zero => simp [gcntTo]
  | succ k ih => unfold gcntTo; split <;> omega
theorem gcnt_met (xs : List Int) (q : Int) (g k : Nat) : gmetTo xs q g k = decide (0 < gcntTo xs q g k) := by
  induction k with
  | zero => simp [gcntTo, gmetTo]
  | succ k ih => unfold gcntTo gmetTo; split
                 · simp
                 · exact ih
theorem gcnt_yes {xs : List Int} {q : Int} {g k : Nat} (h : (nth xs k % q == (g : Int)) = true) : gcntTo xs q g (k + 1) = gcntTo xs q g k + 1 ∧ gsumTo xs q g (k + 1) = wrap64 (gsumTo xs q g k + nth xs k) := by simp [gcntTo, gsumTo, h]
theorem gcnt_no {xs : List Int} {q : Int} {g k : Nat} (h : (nth xs k % q == (g : Int)) = false) : gcntTo xs q g (k + 1) = gcntTo xs q g k ∧ gsumTo xs q g (k + 1) = gsumTo xs q g k := by simp [gcntTo, gsumTo, h]

set_option maxRecDepth 100000 in
set_option maxHeartbeats 2000000 in
theorem groups_any (xs : List Int) (q : Int) (ad : Option Addr) (cap : Nat) (w : World) (hx : IntsAt w ad xs) (hl : xs.length ≤ 1000000) (hq1 : 1 ≤ q) (hq8 : q ≤ 8) :
    Calls Tryz.prog 75 #[.slice ad xs.length cap, .int .i64 q] w fun e w' => ∃ v, e = .returned v ∧ Own w w' v (grpTo xs q q.toNat) ∧ Bw w w' := by
  obtain ⟨qn, rfl⟩ := Int.eq_ofNat_of_zero_le (a := q) (by omega)
  rw [Int.toNat_natCast]
  have hq1' : 1 ≤ qn := by omega
  have hq8' : qn ≤ 8 := by omega
  go_enter Tryz.func75, Tryz.ntmps75
  go_wp2_with fail
  go_loopw [5, 6] (fun v i wr => ∃ m : Nat, m ≤ qn ∧ i = .int .i64 m ∧ Own w wr v (grpTo xs qn m) ∧ Bw w wr) (fun _ i _ => qn - (intOf i).toNat)
  case atStart => exact ⟨0, Nat.zero_le _, rfl, Own.nil _ _, Bw.refl _⟩
  case round =>
    obtain ⟨m, hm, rfl, hown, hB⟩ := hrel
    have hln := grpTo_len xs qn m
    by_cases hlt : m < qn
    · go_wp2_with fail
      rename World => w1
      go_loopw [7, 8, 9] (fun c s i wr => ∃ k : Nat, k ≤ xs.length ∧ c = .int .i64 (gcntTo xs qn m k) ∧ s = .int .i64 (gsumTo xs qn m k) ∧ i = .int .i64 k ∧ wr = w1) (fun _ _ i _ => xs.length - (intOf i).toNat)
      case atStart => exact ⟨0, Nat.zero_le _, rfl, rfl, rfl, rfl⟩
      case round =>
        obtain ⟨k, hk, rfl, rfl, rfl, rfl⟩ := hrel
        have hcl := gcnt_le xs qn m k
        by_cases hlt2 : k < xs.length
        · obtain ⟨b, off, rfl, hb, hc⟩ := (hx.below hB) k hlt2
          have hc1 := hc k hlt2
          clear hc
          cases h1 : (nth xs k % (qn : Int) == (m : Int)) with
          | true =>
            obtain ⟨e1, e2⟩ := gcnt_yes h1
            have E1 := hide e1
            have E2 := hide e2
            clear e1 e2
            go_wp2_with (go_at_call 90; refine (rrest_any _ _ _ hq1 (by omega)).mono ?_; rintro e w' ⟨rfl, rfl⟩)
            go_roundw
            case rel => exact ⟨k + 1, by omega, by rw [unhide E1]; go_num, by rw [unhide E2], by go_num, by trivial⟩
            case measure => simp [intOf]; omega
          | false =>
            obtain ⟨e1, e2⟩ := gcnt_no h1
            have E1 := hide e1
            have E2 := hide e2
            clear e1 e2
            go_wp2_with (go_at_call 90; refine (rrest_any _ _ _ hq1 (by omega)).mono ?_; rintro e w' ⟨rfl, rfl⟩)
            go_roundw
            case rel => exact ⟨k + 1, by omega, by rw [unhide E1], by rw [unhide E2], by go_num, by trivial⟩
            case measure => simp [intOf]; omega
        · have hkk : k = xs.length := by omega
          subst hkk
          have Hy := hide (@grp_yes xs qn m)
          have Hn := hide (@grp_no xs qn m)
          have Hm := hide (gcnt_met xs qn m xs.length)
          generalize gcntTo xs qn m xs.length = cn at *
          by_cases hc0 : 0 < cn
          · go_wp2_with (at_builtin; refine app1 _ rfl _ _ rfl _ _ (grpTo xs qn m) rfl (hown.bw (by repeat (first | exact Bw.refl _ | assumption | refine Bw.drew ?_ | refine Bw.drewN ?_ _ | refine Bw.alloc ?_ _ | refine Bw.trans ?_ (by assumption)))) _ _ (gsumTo xs qn m xs.length) rfl (by simp) (by omega) (by repeat (first | exact Bw.refl _ | assumption | refine Bw.drew ?_ | refine Bw.drewN ?_ _ | refine Bw.alloc ?_ _ | refine Bw.trans ?_ (by assumption))) ?_; intro v' w2 hown1 hB3 hgr1)
            go_roundw
            case rel => exact ⟨m + 1, by omega, by go_num, by rw [(unhide Hy) (by rw [unhide Hm]; simpa using hc0)]; exact hown1, hB3⟩
            case measure => simp [intOf]; omega
          · have hcz : cn = 0 := by omega
            subst hcz
            go_wp2_with fail
            go_roundw
            case rel => exact ⟨m + 1, by omega, by go_num, by rw [(unhide Hn) (by rw [unhide Hm]; rfl)]; exact hown, hB⟩
            case measure => simp [intOf]; omega
    · have hmm : m = qn := by omega
      subst hmm
      go_wp2_with fail
      go_ret
      exact ⟨_, rfl, hown, hB⟩

theorem list_ne {xs ys : List Int} {k : Nat} (h : (nth xs k == nth ys k) = false) : (xs == ys) = false := by
  simp at h ⊢
  intro e; subst e; exact h rfl
theorem list_len {xs ys : List Int} (h : xs.length ≠ ys.length) : (xs == ys) = false := by
  simp; intro e; subst e; exact h rfl
theorem list_eq {xs ys : List Int} (hl : xs.length = ys.length) (h : ∀ j, j < xs.length → (nth xs j == nth ys j) = true) : (xs == ys) = true := by
  simp
  refine List.ext_getElem hl fun j h1 h2 => ?_
  have := h j h1
  rw [nth_lt h1, nth_lt h2] at this
  simpa using this

end Go.Proofs.YtfemleimkbjehaaGreat
namespace Go.Proofs.YtfemleimkbjehaaGreat
set_option linter.unusedVariables false
set_option linter.unusedSimpArgs false
open Go.RowKit

/-- A list of lists in the block g. -/
def RowAt (W w : World) (g L : Nat) (ls : Nat → List Int) : Prop :=
  ∃ arr : Array Value, w.heap[g]? = some (.cells arr 94 (0, 0)) ∧ arr.size = L ∧ ∀ j, j < L → ∃ v, arr[j]? = some v ∧ Own W w v (ls j)

theorem RowAt.bw {W a b : World} {g L : Nat} {ls : Nat → List Int} (h : RowAt W a g L ls) (hb : Bw a b) : RowAt W b g L ls := by
  obtain ⟨arr, h1, h2, h3⟩ := h
  refine ⟨arr, (Below.block hb g (Array.getElem?_eq_some_iff.1 h1).1).trans h1, h2, fun j hj => ?_⟩
  obtain ⟨v, e, ho⟩ := h3 j hj
  exact ⟨v, e, ho.bw hb⟩
theorem RowAt.weaken {V W a : World} {g L : Nat} {ls : Nat → List Int} (h : RowAt W a g L ls) (hb : Bw V W) : RowAt V a g L ls := by
  obtain ⟨arr, h1, h2, h3⟩ := h
  refine ⟨arr, h1, h2, fun j hj => ?_⟩
  obtain ⟨v, e, ho⟩ := h3 j hj
  exact ⟨v, e, ho.weaken hb⟩
theorem RowAt.get {W w : World} {g L : Nat} {ls : Nat → List Int} (h : RowAt W w g L ls) {j : Nat} (hj : j < L) : ∃ la lc, w.cell? ⟨g, j, none⟩ = some (.slice la (ls j).length lc) ∧ Own W w (.slice la (ls j).length lc) (ls j) ∧ (ls j).length ≤ lc := by
  obtain ⟨arr, h1, h2, h3⟩ := h
  obtain ⟨v, e, ho⟩ := h3 j hj
  obtain ⟨la, lc, rfl, hc⟩ := ho.slice
  exact ⟨la, lc, cell_of_block h1 e, ho, hc⟩
theorem RowAt.lt {W w : World} {g L : Nat} {ls : Nat → List Int} (h : RowAt W w g L ls) : g < w.heap.size := by
  obtain ⟨arr, h1, _⟩ := h
  exact (Array.getElem?_eq_some_iff.1 h1).1
theorem RowAt.fr {W w : World} {g L : Nat} {ls : Nat → List Int} (h : RowAt W w g L ls) (o : Nat) : w.frozen? ⟨g, o, none⟩ = false := by
  obtain ⟨arr, h1, _⟩ := h
  exact frozen_of_block h1
/-- A store into a list of lists leaves the numbers. -/
theorem Own.setRow {W V w : World} {v u : Value} {xs : List Int} {g k L : Nat} {ls : Nat → List Int} (h : Own W w v xs) (hr : RowAt V w g L ls) : Own W (w.setCell ⟨g, k, none⟩ u) v xs := by
  obtain ⟨arr, h1, _⟩ := hr
  obtain ⟨hl, h⟩ := h
  refine ⟨hl, ?_⟩
  rcases h with h | ⟨b, cap, cur, e, hb, hc, r⟩
  · exact .inl h
  · have hbg : b ≠ g := by
      intro e; subst e; rw [h1] at hc
      simp at hc
    exact .inr ⟨b, cap, cur, e, hb, (Below.heap_setCell w ⟨g, k, none⟩ u b hbg).trans hc, r⟩
def upd (ls : Nat → List Int) (j : Nat) (l : List Int) : Nat → List Int := fun i => if i = j then l else ls i
theorem upd_eq (ls : Nat → List Int) (j : Nat) (l : List Int) : upd ls j l j = l := by simp [upd]
theorem upd_ne (ls : Nat → List Int) {i j : Nat} (l : List Int) (h : i ≠ j) : upd ls j l i = ls i := by simp [upd, h]
theorem RowAt.set {W w : World} {g L : Nat} {ls : Nat → List Int} (h : RowAt W w g L ls) {j : Nat} {v : Value} {l : List Int} (ho : Own W w v l) : RowAt W (w.setCell ⟨g, j, none⟩ v) g L (upd ls j l) := by
  have h' := h
  obtain ⟨arr, h1, h2, h3⟩ := h
  refine ⟨arr.setIfInBounds j v, ?_, by simpa using h2, fun i hi => ?_⟩
  · rw [setCell_eq_setRow w g j arr 94 (0, 0) _ h1]
    exact setRow_heap w g arr _ _ _ h1
  · by_cases e : i = j
    · subst e
      refine ⟨v, by rw [Array.getElem?_setIfInBounds_self_of_lt (by omega)], ?_⟩
      rw [upd_eq]
      exact ho.setRow h'
    · obtain ⟨u, eu, hu⟩ := h3 i hi
      refine ⟨u, by rw [Array.getElem?_setIfInBounds_ne (by omega)]; exact eu, ?_⟩
      rw [upd_ne _ _ e]
      exact hu.setRow h'
theorem RowAt.setOther {W V w : World} {g g' L L' k : Nat} {ls ls' : Nat → List Int} {u : Value} (h : RowAt W w g L ls) (hr : RowAt V w g' L' ls') (hg : g ≠ g') : RowAt W (w.setCell ⟨g', k, none⟩ u) g L ls := by
  obtain ⟨arr, h1, h2, h3⟩ := h
  refine ⟨arr, (Below.heap_setCell w ⟨g', k, none⟩ u g hg).trans h1, h2, fun j hj => ?_⟩
  obtain ⟨v, e, ho⟩ := h3 j hj
  exact ⟨v, e, ho.setRow hr⟩

def cameL (x : Nd) (cur prev : Nat → List Int) : List Int := if x.kind == 4 then comeL x prev else comeL x cur
theorem inputs_3 {x : Nd} (h : x.kind = 3) : inputsL x = [x.a, x.b] := by simp [inputsL, h]
theorem inputs_1 {x : Nd} (h0 : x.kind ≠ 0) (h3 : x.kind ≠ 3) : inputsL x = [x.a] := by simp [inputsL, h0, h3]

def outL (x : Nd) (l : List Int) : List Int := if x.kind == 4 then l else nodeL x l

/-- What is given, in a row of memory. -/
def GvAt (w : World) (ad : Option Addr) (gv : List Gv) : Prop :=
  ∀ i, i < gv.length → ∃ b off, ad = some ⟨b, off, none⟩ ∧ b < w.heap.size ∧ ∀ j, j < gv.length →
    w.cell? ⟨b, off + j * 3, none⟩ = some (.int .i64 (gvn gv j).node) ∧ w.cell? ⟨b, off + j * 3 + 1, none⟩ = some (.int .i64 (gvn gv j).epoch) ∧ w.cell? ⟨b, off + j * 3 + 2, none⟩ = some (.int .i64 (gvn gv j).value)
theorem GvAt.below {w w' : World} {ad : Option Addr} {gv : List Gv} (h : GvAt w ad gv) (hb : Bw w w') : GvAt w' ad gv := by
  intro i hi
  obtain ⟨b, off, e, hlt, hc⟩ := h i hi
  refine ⟨b, off, e, Nat.lt_of_lt_of_le hlt hb.size, fun j hj => ?_⟩
  obtain ⟨c0, c1, c2⟩ := hc j hj
  exact ⟨((bcell hb).1 _ _ hlt).trans c0, ((bcell hb).1 _ _ hlt).trans c1, ((bcell hb).1 _ _ hlt).trans c2⟩

end Go.Proofs.YtfemleimkbjehaaGreat
