import Derived.Test.YtfemleimkbjehaaPureM3
import Derived.Test.YtfemleimkbjehaaFl2
namespace Go.Proofs.Ytfemleimkbjehaa
open Go.RowKit

/-- Within a pass over all nodes and times: what is known of the flow so far. -/
structure PInv (ns : List Nd) (gv : List Gv) (q : List Int) (R t : Nat) (F : Nat → Nat → Nat → List Int) (ag : Bool) (vis : Nat → Nat → Nat → Prop) : Prop where
  bd : ∀ e s n, n < ns.length → (F e s n).length ≤ bdB ns q s n
  right : ∀ e s n, e < 6 → s < R → n < ns.length → (ndn ns n).kind ≠ 7 → s * ns.length + rank q n < t → F e s n = valS ns gv e s n
  seen : ∀ e s n, e < 6 → s < R → n < ns.length → (ndn ns n).kind ≠ 7 → vis e s n → s * ns.length + rank q n < t + 1 → F e s n = valS ns gv e s n
  more : ag = true → t < R * ns.length
  fix : ag = false → ∀ e s n, e < 6 → s < R → n < ns.length → (ndn ns n).kind ≠ 7 → vis e s n → F e s n = putL ns gv e s n (F e s) (prevS (F e) s)

theorem Good.put_right {ns : List Nd} {r : Int} {q : List Int} (h : Good ns r q) {gv : List Gv} {R t e s n : Nat} {F : Nat → Nat → Nat → List Int} (he : e < 6) (hs : s < R) (hn : n < ns.length)
    (hr : ∀ e s n, e < 6 → s < R → n < ns.length → (ndn ns n).kind ≠ 7 → s * ns.length + rank q n < t → F e s n = valS ns gv e s n) (ht : s * ns.length + rank q n < t + 1) : putL ns gv e s n (F e s) (prevS (F e) s) = valS ns gv e s n := by
  rw [h.val_fix gv e s hn]
  refine put_congr (fun h4 z hz => ?_) (fun _ z hz => ?_)
  · obtain ⟨a, rfl, ha, h7, hra⟩ := h.inp hn hz
    rw [Int.toNat_natCast]
    exact hr e s a he hs ha h7 (by have := hra h4; omega)
  · obtain ⟨a, rfl, ha, h7, _⟩ := h.inp hn hz
    rw [Int.toNat_natCast]
    cases s with
    | zero => rfl
    | succ s' =>
      refine hr e s' a he (by omega) ha h7 ?_
      have := h.rk ha
      rw [Nat.add_mul] at ht
      omega
theorem Good.put_len {ns : List Nd} {r : Int} {q : List Int} (h : Good ns r q) {gv : List Gv} (hg : gv.length ≤ 20) {e s n : Nat} {F : Nat → Nat → Nat → List Int} (hn : n < ns.length) (hb : ∀ e s n, n < ns.length → (F e s n).length ≤ bdB ns q s n) :
    (putL ns gv e s n (F e s) (prevS (F e) s)).length ≤ bdB ns q s n := by
  refine h.put_bd hg hn (fun a ha => hb e s a ha) (fun e0 a => ?_) (fun s' e1 a ha => ?_)
  · subst e0; rfl
  · subst e1; exact hb e s' a ha

theorem PInv.start {ns : List Nd} {gv : List Gv} {q : List Int} {R t : Nat} {F : Nat → Nat → Nat → List Int} (hb : ∀ e s n, n < ns.length → (F e s n).length ≤ bdB ns q s n) (hr : ∀ e s n, e < 6 → s < R → n < ns.length → (ndn ns n).kind ≠ 7 → s * ns.length + rank q n < t → F e s n = valS ns gv e s n) :
    PInv ns gv q R t F false (fun e _ _ => e < 0) := ⟨hb, hr, fun _ _ _ _ _ _ _ h => absurd h (Nat.not_lt_zero _), fun h => (by cases h), fun _ _ _ _ _ _ _ _ h => absurd h (Nat.not_lt_zero _)⟩
theorem PInv.vis {ns : List Nd} {gv : List Gv} {q : List Int} {R t : Nat} {F : Nat → Nat → Nat → List Int} {ag : Bool} {v v' : Nat → Nat → Nat → Prop} (h : PInv ns gv q R t F ag v) (hv : ∀ e s n, e < 6 → s < R → n < ns.length → (ndn ns n).kind ≠ 7 → v' e s n → v e s n) : PInv ns gv q R t F ag v' :=
  ⟨h.bd, h.right, fun e s n a b c d hvis => h.seen e s n a b c d (hv e s n a b c d hvis), h.more, fun hag e s n a b c d hvis => h.fix hag e s n a b c d (hv e s n a b c d hvis)⟩
theorem PInv.same {ns : List Nd} {r : Int} {gv : List Gv} {q : List Int} {R t e s n : Nat} {F : Nat → Nat → Nat → List Int} {ag : Bool} {v : Nat → Nat → Nat → Prop} (hG : Good ns r q) (h : PInv ns gv q R t F ag v) (he : e < 6) (hs : s < R) (hn : n < ns.length) (hp : putL ns gv e s n (F e s) (prevS (F e) s) = F e s n) :
    PInv ns gv q R t F ag (fun e' s' n' => v e' s' n' ∨ (e' = e ∧ s' = s ∧ n' = n)) := by
  refine ⟨h.bd, h.right, fun e' s' n' a b c d hvis ht => ?_, h.more, fun hag e' s' n' a b c d hvis => ?_⟩
  · rcases hvis with hvis | ⟨rfl, rfl, rfl⟩
    · exact h.seen e' s' n' a b c d hvis ht
    · rw [← hp]; exact hG.put_right he hs hn h.right ht
  · rcases hvis with hvis | ⟨rfl, rfl, rfl⟩
    · exact h.fix hag e' s' n' a b c d hvis
    · exact hp.symm
end Go.Proofs.Ytfemleimkbjehaa
namespace Go.Proofs.Ytfemleimkbjehaa
open Go.RowKit

theorem PInv.new {ns : List Nd} {r : Int} {gv : List Gv} {q : List Int} {R t e s n : Nat} {F : Nat → Nat → Nat → List Int} {ag : Bool} {v : Nat → Nat → Nat → Prop} (hG : Good ns r q) (hg : gv.length ≤ 20) (h : PInv ns gv q R t F ag v) (he : e < 6) (hs : s < R) (hn : n < ns.length) (h7 : (ndn ns n).kind ≠ 7) (hp : putL ns gv e s n (F e s) (prevS (F e) s) ≠ F e s n) :
    PInv ns gv q R t (updF F e s n (putL ns gv e s n (F e s) (prevS (F e) s))) true (fun e' s' n' => v e' s' n' ∨ (e' = e ∧ s' = s ∧ n' = n)) := by
  have hright : ∀ e' s' n', e' < 6 → s' < R → n' < ns.length → (ndn ns n').kind ≠ 7 → s' * ns.length + rank q n' < t → updF F e s n (putL ns gv e s n (F e s) (prevS (F e) s)) e' s' n' = valS ns gv e' s' n' := by
    intro e' s' n' a b c d ht
    by_cases eq : e' = e ∧ s' = s ∧ n' = n
    · obtain ⟨rfl, rfl, rfl⟩ := eq
      rw [updF_eq]; exact hG.put_right he hs hn h.right (by omega)
    · rw [updF_ne _ _ eq]; exact h.right e' s' n' a b c d ht
  refine ⟨fun e' s' n' hn' => ?_, hright, fun e' s' n' a b c d hvis ht => ?_, fun _ => ?_, fun hag => by cases hag⟩
  · by_cases eq : e' = e ∧ s' = s ∧ n' = n
    · obtain ⟨rfl, rfl, rfl⟩ := eq
      rw [updF_eq]; exact hG.put_len hg hn h.bd
    · rw [updF_ne _ _ eq]; exact h.bd e' s' n' hn'
  · by_cases eq : e' = e ∧ s' = s ∧ n' = n
    · obtain ⟨rfl, rfl, rfl⟩ := eq
      rw [updF_eq]; exact hG.put_right he hs hn h.right ht
    · rw [updF_ne _ _ eq]
      rcases hvis with hvis | hvis
      · exact h.seen e' s' n' a b c d hvis ht
      · exact absurd hvis eq
  · by_cases ht : t < R * ns.length
    · exact ht
    · exfalso
      apply hp
      have hrk := hG.rk hn
      have hb : s * ns.length + ns.length ≤ R * ns.length := by
        rw [← Nat.succ_mul]; exact Nat.mul_le_mul_right _ hs
      rw [hG.put_right he hs hn h.right (by omega), h.right e s n he hs hn h7 (by omega)]
/-- A flow that nothing changes is the meaning. -/
theorem PInv.final {ns : List Nd} {r : Int} {gv : List Gv} {q : List Int} {R t : Nat} {F : Nat → Nat → Nat → List Int} (hG : Good ns r q) (h : PInv ns gv q R t F false (fun e _ _ => e < 6)) : ∀ e, e < 6 → ∀ s, s < R → ∀ n, n < ns.length → (ndn ns n).kind ≠ 7 → F e s n = valS ns gv e s n := by
  intro e he s
  induction s with
  | zero =>
    intro hs
    have key : ∀ d n, n < ns.length → (ndn ns n).kind ≠ 7 → rank q n < d → F e 0 n = valS ns gv e 0 n := by
      intro d
      induction d with
      | zero => intro n _ _ h0; omega
      | succ d ih =>
        intro n hn h7 hd
        rw [h.fix rfl e 0 n he hs hn h7 he, hG.val_fix gv e 0 hn]
        refine put_congr (fun h4 z hz => ?_) (fun _ z hz => rfl)
        obtain ⟨a, rfl, ha, h7a, hra⟩ := hG.inp hn hz
        rw [Int.toNat_natCast]
        exact ih a ha h7a (by have := hra h4; omega)
    intro n hn h7
    exact key _ n hn h7 (Nat.lt_succ_self _)
  | succ s ihs =>
    intro hs
    have key : ∀ d n, n < ns.length → (ndn ns n).kind ≠ 7 → rank q n < d → F e (s + 1) n = valS ns gv e (s + 1) n := by
      intro d
      induction d with
      | zero => intro n _ _ h0; omega
      | succ d ih =>
        intro n hn h7 hd
        rw [h.fix rfl e (s + 1) n he hs hn h7 he, hG.val_fix gv e (s + 1) hn]
        refine put_congr (fun h4 z hz => ?_) (fun _ z hz => ?_)
        · obtain ⟨a, rfl, ha, h7a, hra⟩ := hG.inp hn hz
          rw [Int.toNat_natCast]
          exact ih a ha h7a (by have := hra h4; omega)
        · obtain ⟨a, rfl, ha, h7a, _⟩ := hG.inp hn hz
          rw [Int.toNat_natCast]
          exact ihs (by omega) a ha h7a
    intro n hn h7
    exact key _ n hn h7 (Nat.lt_succ_self _)
theorem PInv.next {ns : List Nd} {gv : List Gv} {q : List Int} {R t : Nat} {F : Nat → Nat → Nat → List Int} {ag : Bool} (h : PInv ns gv q R t F ag (fun e _ _ => e < 6)) : ∀ e s n, e < 6 → s < R → n < ns.length → (ndn ns n).kind ≠ 7 → s * ns.length + rank q n < t + 1 → F e s n = valS ns gv e s n :=
  fun e s n a b c d ht => h.seen e s n a b c d a ht
end Go.Proofs.Ytfemleimkbjehaa
