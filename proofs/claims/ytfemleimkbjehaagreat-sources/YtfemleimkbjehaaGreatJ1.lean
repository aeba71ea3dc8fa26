import Derived.Test.YtfemleimkbjehaaGreatJ0
import Derived.Deep.AppendLies
namespace Go.Proofs.YtfemleimkbjehaaGreat
open Go.RowKit

theorem Tryz.infoInt : (Tryz.prog.info? 3).map (fun i => (i.zero, i.size, i.bytes)) = some (some (.int .i64 0), 1, 8) := by kernel_rfl

/-- In w the slice value v is one of xs, in memory that W has not. -/
def Own (W w : World) (v : Value) (xs : List Int) : Prop := w.ownsRow W.heap.size 3 1 v xs.length (xs.map (Value.int .i64))

theorem Own.nil (W w : World) : Own W w (.slice none 0 0) [] := World.ownsRow_nil _ _ _ _
theorem Own.bw {W a b : World} {v : Value} {xs : List Int} (h : Own W a v xs) (hb : Bw a b) : Own W b v xs := by
  obtain ⟨hl, h⟩ := h
  refine ⟨hl, ?_⟩
  rcases h with h | ⟨g, cap, cur, e, hg, hc, h1, h2, h3, h4⟩
  · exact .inl h
  · have hlt : g < a.heap.size := by
      by_cases hlt : g < a.heap.size
      · exact hlt
      · rw [Array.getElem?_eq_none (by omega)] at hc; cases hc
    exact .inr ⟨g, cap, cur, e, hg, (Below.block hb g hlt).trans hc, h1, h2, h3, h4⟩
theorem Own.weaken {W V a : World} {v : Value} {xs : List Int} (h : Own W a v xs) (hb : Bw V W) : Own V a v xs := by
  obtain ⟨hl, h⟩ := h
  refine ⟨hl, ?_⟩
  rcases h with h | ⟨g, cap, cur, e, hg, r⟩
  · exact .inl h
  · exact .inr ⟨g, cap, cur, e, Nat.le_trans hb.size hg, r⟩
theorem Own.form {W w : World} {v : Value} {xs : List Int} (h : Own W w v xs) : ∃ ad cap, v = .slice ad xs.length cap ∧ IntsAt w ad xs ∧ xs.length ≤ maxLen := by
  obtain ⟨hl, h⟩ := h
  rcases h with ⟨e, h0⟩ | ⟨g, cap, cur, e, hg, hc, h1, h2, h3, h4⟩
  · refine ⟨none, 0, by rw [e, h0], fun i hi => absurd hi (by omega), by rw [h0]; exact Nat.zero_le _⟩
  · refine ⟨some ⟨g, 0, none⟩, cap, e, fun i hi => ⟨g, 0, rfl, ?_, fun j hj => ?_⟩, by omega⟩
    · by_cases hlt : g < w.heap.size
      · exact hlt
      · rw [Array.getElem?_eq_none (by omega)] at hc; cases hc
    · have := World.ownsRow.cells (w := w) (base := W.heap.size) (e := 3) (size := 1) (v := v) (n := xs.length) (xs := xs.map (Value.int .i64)) ⟨hl, .inr ⟨g, cap, cur, e, hg, hc, h1, h2, h3, h4⟩⟩ (g := g) (by rw [e]; rfl) j (.int .i64 (nth xs j)) (by rw [List.getElem?_map, List.getElem?_eq_getElem hj, nth_lt hj]; rfl)
      rw [Nat.zero_add]
      by_cases hj0 : j = 0
      · subst hj0; simpa [Addr.add] using this
      · simpa [Addr.add, hj0] using this

/-- 'append(v, n)' of one number: the walk's law. -/
theorem app1 {ops : Array Oper} {rest : List Oper} {o : Oper} {a : Act} {Q : Exit → Act → World → Prop} (w : World) (hgd : o.guard = none) (s x : Operand)
    (ho : o.op = .call { callee := .builtin .append, args := #[s, x], argTypes := #[94, 94] }) (W : World) (v : Value) (xs : List Int) (hs : a.eval s = v) (hown : Own W w v xs)
    (g c : Nat) (n : Int) (hx : a.eval x = .slice (some ⟨g, 0, none⟩) 1 c) (hc : w.cell? ⟨g, 0, none⟩ = some (.int .i64 n)) (hlen : xs.length + 1 ≤ 1000000) (hB : Bw W w)
    (h : ∀ v' w', Own W w' v' (xs ++ [n]) → Bw W w' → w.grownBy w' v.ownBlock → wpList Tryz.prog ops Q rest (a.put o.dst v') w') : wpList Tryz.prog ops Q (o :: rest) a w := by
  obtain ⟨i0, hi, hz0, hz1, hz2⟩ := info_parts Tryz.infoInt
  refine wpList_append_own w hgd s x 94 ho W.heap.size 3 i0 (.int .i64 0) 1 8 Tryz.underlying94 hi hz0 hz1 hz2 rfl (by decide) v xs.length (xs.map (Value.int .i64)) hs hown ⟨g, 0, none⟩ 1 c [.int .i64 n] hx rfl ?_ ?_ ?_ ?_ hB.size ?_
  · intro j u hj
    match j, hj with
    | 0, hj => simp at hj; subst hj; simpa [Addr.add] using hc
  · intro u hu; simp at hu; subst hu; rfl
  · unfold maxLen; omega
  · omega
  · intro v' w' h1 h2 _
    refine h v' w' ?_ (Below.grown hB h2 hB.size fun k hk => (World.ownsRow.lt hown k hk).1) h2
    unfold Own
    simpa using h1

theorem add_cell {w : World} {b off j : Nat} {u : Value} (h : w.cell? ⟨b, off + j, none⟩ = some u) : w.cell? ((⟨b, off, none⟩ : Addr).add j) = some u := by
  by_cases hj0 : j = 0
  · subst hj0; simpa [Addr.add] using h
  · simpa [Addr.add, hj0] using h

theorem own_one {W w : World} (n : Int) (hB : Bw W w) : Own W (w.alloc (.cells #[.int .i64 n] 3)) (.slice (some ⟨w.heap.size, 0, none⟩) 1 1) [n] :=
  ⟨rfl, .inr ⟨w.heap.size, 1, #[.int .i64 n], rfl, hB.size, heap_alloc_new w _, Nat.le_refl _, by unfold maxLen; omega, rfl, rfl⟩⟩

/-- 'append(v, ys...)'. -/
theorem appN {ops : Array Oper} {rest : List Oper} {o : Oper} {a : Act} {Q : Exit → Act → World → Prop} (w : World) (hgd : o.guard = none) (s x : Operand)
    (ho : o.op = .call { callee := .builtin .append, args := #[s, x], argTypes := #[94, 94] }) (W : World) (v : Value) (xs : List Int) (hs : a.eval s = v) (hown : Own W w v xs)
    (ad : Option Addr) (c : Nat) (ys : List Int) (hx : a.eval x = .slice ad ys.length c) (hy : IntsAt w ad ys) (hpos : 0 < ys.length) (hlen : xs.length + ys.length ≤ 1000000) (hB : Bw W w)
    (h : ∀ v' w', Own W w' v' (xs ++ ys) → Bw W w' → w.grownBy w' v.ownBlock → wpList Tryz.prog ops Q rest (a.put o.dst v') w') : wpList Tryz.prog ops Q (o :: rest) a w := by
  obtain ⟨i0, hi, hz0, hz1, hz2⟩ := info_parts Tryz.infoInt
  obtain ⟨b, off, rfl, hb, hc⟩ := hy 0 hpos
  refine wpList_append_own w hgd s x 94 ho W.heap.size 3 i0 (.int .i64 0) 1 8 Tryz.underlying94 hi hz0 hz1 hz2 rfl (by decide) v xs.length (xs.map (Value.int .i64)) hs hown ⟨b, off, none⟩ ys.length c (ys.map (Value.int .i64)) hx (by simp) ?_ ?_ ?_ ?_ hB.size ?_
  · intro j u hj
    have hjl : j < ys.length := by
      by_cases hjl : j < ys.length
      · exact hjl
      · rw [List.getElem?_eq_none (by simp; omega)] at hj; cases hj
    rw [List.getElem?_map, List.getElem?_eq_getElem hjl, Option.map_some, Option.some_inj] at hj
    subst hj
    rw [← nth_lt hjl]
    exact add_cell (hc j hjl)
  · intro u hu; simp at hu; obtain ⟨n, _, rfl⟩ := hu; rfl
  · unfold maxLen; omega
  · omega
  · intro v' w' h1 h2 _
    refine h v' w' ?_ (Below.grown hB h2 hB.size fun k hk => (World.ownsRow.lt hown k hk).1) h2
    unfold Own
    simpa using h1
end Go.Proofs.YtfemleimkbjehaaGreat
namespace Go.Proofs.YtfemleimkbjehaaGreat
open Go.RowKit

/-- The order behind the first k nodes of a pass. -/
def passTo (ns : List Nd) (ord : List Int) : Nat → List Int
  | 0 => ord
  | k + 1 => if !hasB (passTo ns ord k) k && canFollowB (passTo ns ord k) (ndn ns k) then passTo ns ord k ++ [(k : Int)] else passTo ns ord k
/-- The order behind p passes. -/
def ordTo (ns : List Nd) : Nat → List Int
  | 0 => []
  | p + 1 => passTo ns (ordTo ns p) ns.length
def orderB (ns : List Nd) : List Int := ordTo ns ns.length

theorem passTo_len (ns : List Nd) (ord : List Int) (k : Nat) : (passTo ns ord k).length ≤ ord.length + k := by
  induction k with
  | zero => simp [passTo]
  | succ k ih =>
    unfold passTo
    split
    · simp; omega
    · omega
theorem ordTo_len (ns : List Nd) (p : Nat) : (ordTo ns p).length ≤ p * ns.length := by
  induction p with
  | zero => simp [ordTo]
  | succ p ih => unfold ordTo; have := passTo_len ns (ordTo ns p) ns.length; rw [Nat.succ_mul]; omega
theorem ordTo_len8 {ns : List Nd} {p : Nat} (h : ns.length ≤ 8) (hp : p ≤ ns.length) : (ordTo ns p).length ≤ 64 :=
  Nat.le_trans (ordTo_len ns p) (Nat.le_trans (Nat.mul_le_mul hp h) (by omega))
theorem passTo_add {ns : List Nd} {ord : List Int} {k : Nat} (h1 : hasB (passTo ns ord k) k = false) (h2 : canFollowB (passTo ns ord k) (ndn ns k) = true) : passTo ns ord (k + 1) = passTo ns ord k ++ [(k : Int)] := by
  rw [passTo, h1, h2]; rfl
theorem passTo_has {ns : List Nd} {ord : List Int} {k : Nat} (h1 : hasB (passTo ns ord k) k = true) : passTo ns ord (k + 1) = passTo ns ord k := by
  rw [passTo, h1]; rfl
theorem passTo_not {ns : List Nd} {ord : List Int} {k : Nat} (h2 : canFollowB (passTo ns ord k) (ndn ns k) = false) : passTo ns ord (k + 1) = passTo ns ord k := by
  rw [passTo, h2, Bool.and_false]; rfl

set_option maxHeartbeats 1000000 in
theorem order_any (ns : List Nd) (ga : Option Addr) (gc : Nat) (r : Int) (w : World) (hn : NodesAt w ga ns) (hg : ns.length ≤ 8) :
    Calls Tryz.prog 78 #[.agg #[.slice ga ns.length gc, .int .i64 r]] w fun e w' => ∃ v, e = .returned v ∧ Own w w' v (orderB ns) ∧ Bw w w' := by
  have hgl : ns.length ≤ maxLen := by unfold maxLen; omega
  go_enter Tryz.func78, Tryz.ntmps78
  go_wp2
  go_loopw [3, 4] (fun v i wr => ∃ p : Nat, p ≤ ns.length ∧ i = .int .i64 p ∧ Own (w.alloc (.cells #[.slice ga ns.length gc, .int .i64 r] 24)) wr v (ordTo ns p) ∧
      Bw (w.alloc (.cells #[.slice ga ns.length gc, .int .i64 r] 24)) wr)
    (fun _ i _ => ns.length - (intOf i).toNat)
  case atStart => exact ⟨0, Nat.zero_le _, rfl, Own.nil _ _, Bw.refl _⟩
  case round =>
    obtain ⟨p, hp, rfl, hown, hB⟩ := hrel
    obtain ⟨gcc, gff⟩ := bcell hB
    have gz : w.heap.size < wr.heap.size := by have := hB.size; simp at this; omega
    have h64 := ordTo_len8 hg hp
    by_cases hlt : p < ns.length
    · go_wp2
      go_loopw [3, 17] (fun v i wi => ∃ k : Nat, k ≤ ns.length ∧ i = .int .i64 k ∧ Own (w.alloc (.cells #[.slice ga ns.length gc, .int .i64 r] 24)) wi v (passTo ns (ordTo ns p) k) ∧ Bw (w.alloc (.cells #[.slice ga ns.length gc, .int .i64 r] 24)) wi)
        (fun _ i _ => ns.length - (intOf i).toNat)
      case atStart => exact ⟨0, Nat.zero_le _, rfl, hown, hB⟩
      case round =>
        clear hown hB gcc gff gz
        obtain ⟨k, hk, rfl, hown, hB⟩ := hrel
        obtain ⟨gcc, gff⟩ := bcell hB
        have gz : w.heap.size < wr.heap.size := by have := hB.size; simp at this; omega
        have hpl := passTo_len ns (ordTo ns p) k
        by_cases hkl : k < ns.length
        · obtain ⟨b, off, rfl, hb, hc⟩ := hn k hkl
          obtain ⟨c0, c1, c2, c3, c4⟩ := hc k hkl
          clear hc
          obtain ⟨ad, cap, rfl, hx, hml⟩ := hown.form
          cases hh : hasB (passTo ns (ordTo ns p) k) k with
          | true =>
            have HH := hide hh
            clear hh
            go_wp2_with (go_at_call 105; refine (contains_any (passTo ns (ordTo ns p) k) _ _ _ _ (hx.below (by repeat (first | exact Bw.refl _ | assumption | refine Bw.drew ?_ | refine Bw.drewN ?_ _ | refine Bw.alloc ?_ _ | refine Bw.trans ?_ (by assumption)))) hml).mono ?_; rintro e w' ⟨rfl, rfl⟩; rw [unhide HH])
            go_roundw
            case rel => exact ⟨k + 1, by omega, by go_num, by rw [passTo_has (unhide HH)]; exact hown.bw (by repeat (first | exact Bw.refl _ | assumption | refine Bw.drew ?_ | refine Bw.drewN ?_ _ | refine Bw.alloc ?_ _ | refine Bw.trans ?_ (by assumption))), (by repeat (first | exact Bw.refl _ | assumption | refine Bw.drew ?_ | refine Bw.drewN ?_ _ | refine Bw.alloc ?_ _ | refine Bw.trans ?_ (by assumption)))⟩
            case measure => simp [intOf]; omega
          | false =>
            have HH := hide hh
            clear hh
            cases hf : canFollowB (passTo ns (ordTo ns p) k) (ndn ns k) with
            | false =>
              have HF := hide hf
              clear hf
              go_wp2_with (first | (go_at_call 105; refine (contains_any (passTo ns (ordTo ns p) k) _ _ _ _ (hx.below (by repeat (first | exact Bw.refl _ | assumption | refine Bw.drew ?_ | refine Bw.drewN ?_ _ | refine Bw.alloc ?_ _ | refine Bw.trans ?_ (by assumption)))) hml).mono ?_; rintro e w' ⟨rfl, rfl⟩; rw [unhide HH]) | (go_at_call 106; refine (canFollow_any (passTo ns (ordTo ns p) k) (ndn ns k) _ _ _ (hx.below (by repeat (first | exact Bw.refl _ | assumption | refine Bw.drew ?_ | refine Bw.drewN ?_ _ | refine Bw.alloc ?_ _ | refine Bw.trans ?_ (by assumption)))) hml).mono ?_; rintro e w' ⟨rfl, hbl⟩; rw [unhide HF]))
              go_roundw
              case rel => exact ⟨k + 1, by omega, by go_num, by rw [passTo_not (unhide HF)]; exact hown.bw (by repeat (first | exact Bw.refl _ | assumption | refine Bw.drew ?_ | refine Bw.drewN ?_ _ | refine Bw.alloc ?_ _ | refine Bw.trans ?_ (by assumption))), (by repeat (first | exact Bw.refl _ | assumption | refine Bw.drew ?_ | refine Bw.drewN ?_ _ | refine Bw.alloc ?_ _ | refine Bw.trans ?_ (by assumption)))⟩
              case measure => simp [intOf]; omega
            | true =>
              have HF := hide hf
              clear hf
              go_wp2_with (first | (at_builtin; refine app1 _ rfl _ _ rfl _ _ (passTo ns (ordTo ns p) k) rfl (hown.bw (by repeat (first | exact Bw.refl _ | assumption | refine Bw.drew ?_ | refine Bw.drewN ?_ _ | refine Bw.alloc ?_ _ | refine Bw.trans ?_ (by assumption)))) _ _ (k : Int) rfl (by simp) (by omega) (by repeat (first | exact Bw.refl _ | assumption | refine Bw.drew ?_ | refine Bw.drewN ?_ _ | refine Bw.alloc ?_ _ | refine Bw.trans ?_ (by assumption))) ?_; intro v' w1 hown1 hB1 hgr1) | (go_at_call 105; refine (contains_any (passTo ns (ordTo ns p) k) _ _ _ _ (hx.below (by repeat (first | exact Bw.refl _ | assumption | refine Bw.drew ?_ | refine Bw.drewN ?_ _ | refine Bw.alloc ?_ _ | refine Bw.trans ?_ (by assumption)))) hml).mono ?_; rintro e w' ⟨rfl, rfl⟩; rw [unhide HH]) | (go_at_call 106; refine (canFollow_any (passTo ns (ordTo ns p) k) (ndn ns k) _ _ _ (hx.below (by repeat (first | exact Bw.refl _ | assumption | refine Bw.drew ?_ | refine Bw.drewN ?_ _ | refine Bw.alloc ?_ _ | refine Bw.trans ?_ (by assumption)))) hml).mono ?_; rintro e w' ⟨rfl, hbl⟩; rw [unhide HF]; obtain ⟨hcc, hff⟩ := bcell hbl))
              go_roundw
              case rel => exact ⟨k + 1, by omega, by go_num, by rw [passTo_add (unhide HH) (unhide HF)]; exact hown1, hB1⟩
              case measure => simp [intOf]; omega
        · have hkk : k = ns.length := by omega
          subst hkk
          go_wp2
          go_roundw
          case rel => exact ⟨p + 1, by omega, by go_num, by unfold ordTo; exact hown, hB⟩
          case measure => simp [intOf]; omega
    · have hpp : p = ns.length := by omega
      obtain ⟨ad, cap, rfl, hx, hml⟩ := hown.form
      subst hpp
      go_wp2
      go_ret
      exact ⟨_, rfl, (hown.weaken (by repeat (first | exact Bw.refl _ | assumption | refine Bw.drew ?_ | refine Bw.drewN ?_ _ | refine Bw.alloc ?_ _ | refine Bw.trans ?_ (by assumption)))), (by repeat (first | exact Bw.refl _ | assumption | refine Bw.drew ?_ | refine Bw.drewN ?_ _ | refine Bw.alloc ?_ _ | refine Bw.trans ?_ (by assumption)))⟩
end Go.Proofs.YtfemleimkbjehaaGreat
namespace Go.Proofs.YtfemleimkbjehaaGreat
open Go.RowKit

def lenOf : Value → Nat
  | .slice _ n _ => n
  | _ => 0
theorem Own.len {W w : World} {v : Value} {xs : List Int} (h : Own W w v xs) : lenOf v = xs.length := by
  obtain ⟨ad, cap, rfl, _⟩ := h.form; rfl

/-- So many steps against the ways. -/
def backB (ns : List Nd) (ord : List Int) (n : Int) : Nat → Int
  | 0 => n
  | k + 1 => aheadB ns ord (backB ns ord n k)
def cycGo (ns : List Nd) (ord : List Int) (s : Int) : Nat → List Int → Int → List Int
  | 0, l, _ => l
  | f + 1, l, n => if n == s then l else cycGo ns ord s f (n :: l) (aheadB ns ord n)
def cycS (ns : List Nd) (ord : List Int) : Int := backB ns ord (firstB ord 0 ns.length) ns.length
def cycB (ns : List Nd) (ord : List Int) : List Int := cycGo ns ord (cycS ns ord) (ns.length - 1) [cycS ns ord] (aheadB ns ord (cycS ns ord))

theorem cycGo_stop {ns : List Nd} {ord : List Int} {s : Int} {f : Nat} {l : List Int} {n : Int} (h : (n == s) = true) : cycGo ns ord s f l n = l := by
  cases f with
  | zero => rfl
  | succ f => simp [cycGo, h]
theorem cycGo_on {ns : List Nd} {ord : List Int} {s : Int} {f : Nat} {l : List Int} {n : Int} (h : (n == s) = false) : cycGo ns ord s (f + 1) l n = cycGo ns ord s f (n :: l) (aheadB ns ord n) := by
  simp [cycGo, h]

set_option maxHeartbeats 1000000 in
theorem cycle_any (ns : List Nd) (ga : Option Addr) (gc : Nat) (r : Int) (ord : List Int) (ad : Option Addr) (cap : Nat) (w : World) (hn : NodesAt w ga ns) (hx : IntsAt w ad ord) (hl : ord.length ≤ maxLen) (hg1 : 1 ≤ ns.length) (hg : ns.length ≤ 8) :
    Calls Tryz.prog 79 #[.agg #[.slice ga ns.length gc, .int .i64 r], .slice ad ord.length cap] w fun e w' => ∃ v, e = .returned v ∧ Own w w' v (cycB ns ord) ∧ Bw w w' := by
  have hgl : ns.length ≤ maxLen := by unfold maxLen; omega
  go_enter Tryz.func79, Tryz.ntmps79
  go_wp2_with (go_at_call 107; refine (first_any ns.length ord _ _ _ _ _ _ (hx.below (by repeat (first | exact Bw.refl _ | assumption | refine Bw.drew ?_ | refine Bw.drewN ?_ _ | refine Bw.alloc ?_ _ | refine Bw.trans ?_ (by assumption)))) hl hgl).mono ?_; rintro e w' ⟨rfl, hbl⟩)
  go_loopw [5, 6] (fun v i wr => ∃ k : Nat, k ≤ ns.length ∧ i = .int .i64 k ∧ v = .int .i64 (backB ns ord (firstB ord 0 ns.length) k) ∧
      Bw (w.alloc (.cells #[.slice ga ns.length gc, .int .i64 r] 24)) wr)
    (fun _ i _ => ns.length - (intOf i).toNat)
  case atStart => exact ⟨0, Nat.zero_le _, rfl, rfl, (by repeat (first | exact Bw.refl _ | assumption | refine Bw.drew ?_ | refine Bw.drewN ?_ _ | refine Bw.alloc ?_ _ | refine Bw.trans ?_ (by assumption)))⟩
  case round =>
    clear hbl
    obtain ⟨k, hk, rfl, rfl, hB⟩ := hrel
    obtain ⟨gcc, gff⟩ := bcell hB
    have gz : w.heap.size < wr.heap.size := by have := hB.size; simp at this; omega
    by_cases hlt : k < ns.length
    · go_wp2_with (go_at_call 108; refine (ahead_any ns _ _ _ ord _ _ _ _ (hn.below (by repeat (first | exact Bw.refl _ | assumption | refine Bw.drew ?_ | refine Bw.drewN ?_ _ | refine Bw.alloc ?_ _ | refine Bw.trans ?_ (by assumption)))) (hx.below (by repeat (first | exact Bw.refl _ | assumption | refine Bw.drew ?_ | refine Bw.drewN ?_ _ | refine Bw.alloc ?_ _ | refine Bw.trans ?_ (by assumption)))) hl hgl).mono ?_; rintro e w' ⟨rfl, hbl⟩)
      go_roundw
      case rel => exact ⟨k + 1, by omega, by go_num, rfl, (by repeat (first | exact Bw.refl _ | assumption | refine Bw.drew ?_ | refine Bw.drewN ?_ _ | refine Bw.alloc ?_ _ | refine Bw.trans ?_ (by assumption)))⟩
      case measure => simp [intOf]; omega
    · have hkk : k = ns.length := by omega
      subst hkk
      have hs : Hid (backB ns ord (firstB ord 0 ns.length) ns.length = cycS ns ord) := rfl
      rw [unhide hs]
      clear hs
      go_wp2_with (go_at_call 108; refine (ahead_any ns _ _ _ ord _ _ _ _ (hn.below (by repeat (first | exact Bw.refl _ | assumption | refine Bw.drew ?_ | refine Bw.drewN ?_ _ | refine Bw.alloc ?_ _ | refine Bw.trans ?_ (by assumption)))) (hx.below (by repeat (first | exact Bw.refl _ | assumption | refine Bw.drew ?_ | refine Bw.drewN ?_ _ | refine Bw.alloc ?_ _ | refine Bw.trans ?_ (by assumption)))) hl hgl).mono ?_; rintro e w' ⟨rfl, hbl⟩)
      go_loopw [7, 8] (fun v i wi => ∃ (l : List Int) (n : Int) (f : Nat), i = .int .i64 n ∧ Own (w.alloc (.cells #[.slice ga ns.length gc, .int .i64 r] 24)) wi v l ∧ l.length + f = ns.length ∧ 0 < l.length ∧ cycGo ns ord (cycS ns ord) f l n = cycB ns ord ∧ Bw (w.alloc (.cells #[.slice ga ns.length gc, .int .i64 r] 24)) wi)
        (fun v _ _ => ns.length - lenOf v)
      case atStart => exact ⟨[cycS ns ord], _, ns.length - 1, rfl, (own_one _ hB).bw (by repeat (first | exact Bw.refl _ | assumption | refine Bw.drew ?_ | refine Bw.drewN ?_ _ | refine Bw.alloc ?_ _ | refine Bw.trans ?_ (by assumption))), by simp; omega, by simp, rfl, (by repeat (first | exact Bw.refl _ | assumption | refine Bw.drew ?_ | refine Bw.drewN ?_ _ | refine Bw.alloc ?_ _ | refine Bw.trans ?_ (by assumption)))⟩
      case round =>
        clear hB gcc gff gz hbl
        obtain ⟨l, n, f, rfl, hown, hlf, hl0, hcy, hB⟩ := hrel
        have Hcy := hide hcy
        clear hcy
        obtain ⟨gcc, gff⟩ := bcell hB
        have gz : w.heap.size < wr.heap.size := by have := hB.size; simp at this; omega
        obtain ⟨la, lc, rfl, hlx, hml⟩ := hown.form
        cases hns : (n == cycS ns ord) with
        | true =>
          have Hns := hide hns
          have hns' : (n != cycS ns ord) = false := by simp [bne, hns]
          clear hns
          go_wp2
          go_ret
          exact ⟨_, rfl, by rw [← unhide Hcy, cycGo_stop (unhide Hns)]; exact hown.weaken (by repeat (first | exact Bw.refl _ | assumption | refine Bw.drew ?_ | refine Bw.drewN ?_ _ | refine Bw.alloc ?_ _ | refine Bw.trans ?_ (by assumption))), (by repeat (first | exact Bw.refl _ | assumption | refine Bw.drew ?_ | refine Bw.drewN ?_ _ | refine Bw.alloc ?_ _ | refine Bw.trans ?_ (by assumption)))⟩
        | false =>
          have Hns := hide hns
          have hns' : (n != cycS ns ord) = true := by simp [bne, hns]
          clear hns
          by_cases hlt : l.length < ns.length
          · obtain ⟨f', rfl⟩ : ∃ f', f = f' + 1 := ⟨f - 1, by omega⟩
            go_wp2_with (first | (at_builtin; refine appN _ rfl _ _ rfl _ _ [n] rfl (own_one n hB) _ _ l rfl (hlx.below (by repeat (first | exact Bw.refl _ | assumption | refine Bw.drew ?_ | refine Bw.drewN ?_ _ | refine Bw.alloc ?_ _ | refine Bw.trans ?_ (by assumption)))) hl0 (by simp; omega) (by repeat (first | exact Bw.refl _ | assumption | refine Bw.drew ?_ | refine Bw.drewN ?_ _ | refine Bw.alloc ?_ _ | refine Bw.trans ?_ (by assumption))) ?_; intro v' w1 hown1 hB1 hgr1; obtain ⟨gc1, gf1⟩ := bcell hB1) | (go_at_call 108; refine (ahead_any ns _ _ _ ord _ _ _ _ (hn.below (by repeat (first | exact Bw.refl _ | assumption | refine Bw.drew ?_ | refine Bw.drewN ?_ _ | refine Bw.alloc ?_ _ | refine Bw.trans ?_ (by assumption)))) (hx.below (by repeat (first | exact Bw.refl _ | assumption | refine Bw.drew ?_ | refine Bw.drewN ?_ _ | refine Bw.alloc ?_ _ | refine Bw.trans ?_ (by assumption)))) hl hgl).mono ?_; rintro e w' ⟨rfl, hbl⟩))
            go_roundw
            case rel => exact ⟨n :: l, aheadB ns ord n, f', rfl, hown1.bw (by repeat (first | exact Bw.refl _ | assumption | refine Bw.drew ?_ | refine Bw.drewN ?_ _ | refine Bw.alloc ?_ _ | refine Bw.trans ?_ (by assumption))), by simp; omega, by simp, by rw [← unhide Hcy, cycGo_on (unhide Hns)], (by repeat (first | exact Bw.refl _ | assumption | refine Bw.drew ?_ | refine Bw.drewN ?_ _ | refine Bw.alloc ?_ _ | refine Bw.trans ?_ (by assumption)))⟩
            case measure => rw [hown1.len]; simp [lenOf]; omega
          · have hf0 : f = 0 := by omega
            subst hf0
            go_wp2
            go_ret
            exact ⟨_, rfl, by rw [← unhide Hcy]; exact hown.weaken (by repeat (first | exact Bw.refl _ | assumption | refine Bw.drew ?_ | refine Bw.drewN ?_ _ | refine Bw.alloc ?_ _ | refine Bw.trans ?_ (by assumption))), (by repeat (first | exact Bw.refl _ | assumption | refine Bw.drew ?_ | refine Bw.drewN ?_ _ | refine Bw.alloc ?_ _ | refine Bw.trans ?_ (by assumption)))⟩
end Go.Proofs.YtfemleimkbjehaaGreat
namespace Go.Proofs.YtfemleimkbjehaaGreat
open Go.RowKit

def checkE (ns : List Nd) (r : Int) : Int := if wfB ns r then (if (orderB ns).length < ns.length then 2 else 0) else 1
/-- What Check answers besides its error. -/
def CheckL (w w' : World) (v : Value) (ns : List Nd) (r : Int) : Prop :=
  if checkE ns r = 2 then Own w w' v (cycB ns (orderB ns)) else v = .slice none 0 0

theorem CheckL.weaken {V W w' : World} {v : Value} {ns : List Nd} {r : Int} (h : CheckL W w' v ns r) (hb : Bw V W) : CheckL V w' v ns r := by
  unfold CheckL at h ⊢
  split
  · rename_i he; rw [if_pos he] at h; exact h.weaken hb
  · rename_i he; rw [if_neg he] at h; exact h

theorem wfB_len {ns : List Nd} {r : Int} (h : wfB ns r = true) : 1 ≤ ns.length ∧ ns.length ≤ 8 := by
  simp [wfB] at h; omega

set_option maxHeartbeats 1000000 in
theorem gcheck_any (ns : List Nd) (ga : Option Addr) (gc : Nat) (r : Int) (w : World) (hn : NodesAt w ga ns) (hgl : ns.length ≤ maxLen) :
    Calls Tryz.prog 49 #[.agg #[.slice ga ns.length gc, .int .i64 r]] w fun e w' => ∃ v, e = .returned (.tuple #[.int .i64 (checkE ns r), v]) ∧ CheckL w w' v ns r ∧ Bw w w' := by
  cases hwf : wfB ns r with
  | false =>
    have HW := hide hwf
    clear hwf
    go_enter Tryz.func49, Tryz.ntmps49
    go_wp2_with (go_at_call 77; refine (wf_any ns _ _ _ _ (hn.below (by repeat (first | exact Bw.refl _ | assumption | refine Bw.drew ?_ | refine Bw.drewN ?_ _ | refine Bw.alloc ?_ _ | refine Bw.trans ?_ (by assumption)))) hgl).mono ?_; rintro e w' ⟨rfl, hbl⟩; rw [unhide HW]; obtain ⟨hcc, hff⟩ := bcell hbl; have hz0 : w.heap.size < w'.heap.size := (by have := hbl.size; (try simp at this); omega))
    go_ret2
    have he : checkE ns r = 1 := by simp [checkE, unhide HW]
    exact ⟨_, by rw [he]; rfl, by unfold CheckL; rw [he]; simp, (by repeat (first | exact Bw.refl _ | assumption | refine Bw.drew ?_ | refine Bw.drewN ?_ _ | refine Bw.alloc ?_ _ | refine Bw.trans ?_ (by assumption)))⟩
  | true =>
    have HW := hide hwf
    obtain ⟨h1, h8⟩ := wfB_len hwf
    clear hwf
    by_cases hlt : (orderB ns).length < ns.length
    · have he : Hid (checkE ns r = 2) := hide (by simp [checkE, unhide HW, hlt])
      go_enter Tryz.func49, Tryz.ntmps49
      go_wp2_with (first | (go_at_call 77; refine (wf_any ns _ _ _ _ (hn.below (by repeat (first | exact Bw.refl _ | assumption | refine Bw.drew ?_ | refine Bw.drewN ?_ _ | refine Bw.alloc ?_ _ | refine Bw.trans ?_ (by assumption)))) hgl).mono ?_; rintro e w' ⟨rfl, hbl⟩; rw [unhide HW]; obtain ⟨hcc, hff⟩ := bcell hbl; have hz0 : w.heap.size < w'.heap.size := (by have := hbl.size; (try simp at this); omega)) | (go_at_call 78; refine (order_any ns _ _ _ _ (hn.below (by repeat (first | exact Bw.refl _ | assumption | refine Bw.drew ?_ | refine Bw.drewN ?_ _ | refine Bw.alloc ?_ _ | refine Bw.trans ?_ (by assumption)))) h8).mono ?_; rintro e w' ⟨v, rfl, hown, hbl⟩; obtain ⟨oa, oc, rfl, hox, hom⟩ := hown.form; obtain ⟨hcc, hff⟩ := bcell hbl; have hz0 : w.heap.size < w'.heap.size := (by have := hbl.size; (try simp at this); omega)) | (go_at_call 79; refine (cycle_any ns _ _ _ (orderB ns) _ _ _ (hn.below (by repeat (first | exact Bw.refl _ | assumption | refine Bw.drew ?_ | refine Bw.drewN ?_ _ | refine Bw.alloc ?_ _ | refine Bw.trans ?_ (by assumption)))) (hox.below (by repeat (first | exact Bw.refl _ | assumption | refine Bw.drew ?_ | refine Bw.drewN ?_ _ | refine Bw.alloc ?_ _ | refine Bw.trans ?_ (by assumption)))) hom h1 h8).mono ?_; rintro e w' ⟨v, rfl, hcy, hbl⟩))
      go_ret2
      exact ⟨_, by rw [unhide he]; rfl, by unfold CheckL; rw [unhide he]; simp; exact hcy.weaken (by repeat (first | exact Bw.refl _ | assumption | refine Bw.drew ?_ | refine Bw.drewN ?_ _ | refine Bw.alloc ?_ _ | refine Bw.trans ?_ (by assumption))), (by repeat (first | exact Bw.refl _ | assumption | refine Bw.drew ?_ | refine Bw.drewN ?_ _ | refine Bw.alloc ?_ _ | refine Bw.trans ?_ (by assumption)))⟩
    · have he : Hid (checkE ns r = 0) := hide (by simp [checkE, unhide HW, hlt])
      go_enter Tryz.func49, Tryz.ntmps49
      go_wp2_with (first | (go_at_call 77; refine (wf_any ns _ _ _ _ (hn.below (by repeat (first | exact Bw.refl _ | assumption | refine Bw.drew ?_ | refine Bw.drewN ?_ _ | refine Bw.alloc ?_ _ | refine Bw.trans ?_ (by assumption)))) hgl).mono ?_; rintro e w' ⟨rfl, hbl⟩; rw [unhide HW]; obtain ⟨hcc, hff⟩ := bcell hbl; have hz0 : w.heap.size < w'.heap.size := (by have := hbl.size; (try simp at this); omega)) | (go_at_call 78; refine (order_any ns _ _ _ _ (hn.below (by repeat (first | exact Bw.refl _ | assumption | refine Bw.drew ?_ | refine Bw.drewN ?_ _ | refine Bw.alloc ?_ _ | refine Bw.trans ?_ (by assumption)))) h8).mono ?_; rintro e w' ⟨v, rfl, hown, hbl⟩; obtain ⟨oa, oc, rfl, hox, hom⟩ := hown.form; obtain ⟨hcc, hff⟩ := bcell hbl; have hz0 : w.heap.size < w'.heap.size := (by have := hbl.size; (try simp at this); omega)))
      go_ret2
      exact ⟨_, by rw [unhide he]; rfl, by unfold CheckL; rw [unhide he]; simp, (by repeat (first | exact Bw.refl _ | assumption | refine Bw.drew ?_ | refine Bw.drewN ?_ _ | refine Bw.alloc ?_ _ | refine Bw.trans ?_ (by assumption)))⟩

end Go.Proofs.YtfemleimkbjehaaGreat
