import Derived.Test.YtfemleimkbjehaaJ29
import Derived.Test.YtfemleimkbjehaaJ30
import Derived.Test.YtfemleimkbjehaaJ9
set_option maxRecDepth 1000000
set_option maxHeartbeats 40000000
set_option linter.unusedVariables false
set_option linter.unusedSimpArgs false
namespace Go.Proofs.Ytfemleimkbjehaa
open Go.RowKit
def LowG (ns : List Nd) : Prop := ∀ x, x < ns.length → (qV ns x).kind ≠ 4 → ∀ a, a < ns.length → qL (qV ns x) a = true → (qV ns a).kind = 4 ∨ a < x
theorem low_topo {ns : List Nd} (h8 : ns.length ≤ 8) (hl : LowG ns) {a x : Nat} (ha : a < ns.length) (hx : x < ns.length) (ht : qL (qV ns x) a = true) (h4 : (qV ns a).kind ≠ 4) : cL ns a < cL ns x := by
  unfold cL
  rw [if_neg h4]
  by_cases hb : (qV ns x).kind = 4
  · rw [if_pos hb]; omega
  · rw [if_neg hb]
    rcases hl x hx hb a ha ht with h | h
    · exact absurd h h4
    · exact h
theorem chain_topo {ns : List Nd} (h8 : ns.length ≤ 8) (hl : LowG ns) {x : Nat} (hx : x < ns.length) : ∀ {ys : List Nat} {n : Nat}, n < ns.length → (qV ns n).kind ≠ 4 → Chain ns n ys x → wN ns ys = 0 → cL ns n < cL ns x
  | [], n, hn, h4, hc, _ => low_topo h8 hl hn hx hc h4
  | y :: ys, n, hn, h4, ⟨h1, h2, h3⟩, hz => by
    have hb := xR ns y
    have hc := uB ns ys
    simp only [wN] at hz
    have hb0 : (qV ns y).kind ≠ 4 := by
      intro e
      have : uV ns y = 1 := if_pos e
      omega
    exact Nat.lt_trans (low_topo h8 hl hn h1 h2 h4) (chain_topo h8 hl hx h1 hb0 h3 (by omega))
theorem noLoop_far {ns : List Nd} (h8 : ns.length ≤ 8) (hl : LowG ns) : NoLoop ns (zQ ns) := by
  intro m n hm hn h4 h0
  unfold zQ at h0
  rcases uW hn ns.length (m : Int) with ⟨e, _⟩ | ⟨_, ⟨ys, y1, _, y3⟩, _⟩
  · omega
  · exact chain_topo h8 hl hn hm h4 y1 (by omega)
theorem dOk_far {ns : List Nd} (h8 : ns.length ≤ 8) (hl : LowG ns) : DOk ns (zQ ns) := by
  have d0 : ∀ a x, a < ns.length → x < ns.length → qL (qV ns x) a = true → zQ ns a x = 0 := by
    intro a x ha hx ht
    unfold zQ
    rcases uW hx ns.length (a : Int) with ⟨_, g⟩ | ⟨g0, _, g⟩
    · exact absurd (show ([] : List Nat).length + 1 ≤ ns.length by simp; omega) (g [] ht)
    · have := g [] ht (by simp; omega)
      simp only [wN] at this
      omega
  refine ⟨d0, fun a x y ha hx hy ht h0 => ?_, fun a x ha hx ht h4 => low_topo h8 hl ha hx ht h4⟩
  have h1 := d0 a x ha hx ht
  unfold zQ at h0 h1 ⊢
  have := triangle (n := (a : Int)) hx hy (by omega) h0
  omega
end Go.Proofs.Ytfemleimkbjehaa
