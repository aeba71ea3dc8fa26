import Derived.Test.YtfemleimkbjehaaJ0
set_option maxRecDepth 1000000
set_option maxHeartbeats 40000000
set_option linter.unusedVariables false
set_option linter.unusedSimpArgs false
namespace Go.Proofs.Ytfemleimkbjehaa
open Go.RowKit
def lenOf : Value → Nat
  | .slice _ n _ => n
  | _ => 0
theorem Own.len {W w : World} {v : Value} {xs : List Int} (h : Own W w v xs) : lenOf v = xs.length := by
  obtain ⟨ad, cap, rfl, _⟩ := h.form; rfl
def backB (ns : List Nd) (ord : List Int) (n : Int) : Nat → Int
  | 0 => n
  | k + 1 => tG ns ord (backB ns ord n k)
def cC (ns : List Nd) (ord : List Int) (s : Int) : Nat → List Int → Int → List Int
  | 0, l, _ => l
  | f + 1, l, n => if n == s then l else cC ns ord s f (n :: l) (tG ns ord n)
def cycS (ns : List Nd) (ord : List Int) : Int := backB ns ord (wM ord 0 ns.length) ns.length
def cycB (ns : List Nd) (ord : List Int) : List Int := cC ns ord (cycS ns ord) (ns.length - 1) [cycS ns ord] (tG ns ord (cycS ns ord))
theorem cycGo_stop {ns : List Nd} {ord : List Int} {s : Int} {f : Nat} {l : List Int} {n : Int} (h : (n == s) = true) : cC ns ord s f l n = l := by
  cases f with
  | zero => rfl
  | succ f => simp [cC, h]
theorem cycGo_on {ns : List Nd} {ord : List Int} {s : Int} {f : Nat} {l : List Int} {n : Int} (h : (n == s) = false) : cC ns ord s (f + 1) l n = cC ns ord s f (n :: l) (tG ns ord n) := by
  simp [cC, h]
set_option maxHeartbeats 1000000 in
theorem cycle_any (ns : List Nd) (ga : Option Addr) (gc : Nat) (r : Int) (ord : List Int) (ad : Option Addr) (cap : Nat) (w : World) (hn : NodesAt w ga ns) (hx : IntsAt w ad ord) (hl : ord.length ≤ maxLen) (hg1 : 1 ≤ ns.length) (hg : ns.length ≤ 8) :
    Calls Try.prog 68 #[.agg #[.slice ga ns.length gc, .int .i64 r], .slice ad ord.length cap] w fun e w' => ∃ v, e = .returned v ∧ Own w w' v (cycB ns ord) ∧ Bw w w' := by
  have hgl : ns.length ≤ maxLen := by unfold maxLen; omega
  go_enter Try.func68, Try.ntmps68
  go_wp2_with (go_at_call 96; refine (first_any ns.length ord _ _ _ _ _ _ (hx.below (by repeat first|exact br _|assumption|apply bd|apply bn|apply ba|refine bt ?_ (by assumption))) hl hgl).mono ?_; rintro e w' ⟨rfl, hbl⟩)
  go_loopw [5, 6] (fun v i wr => ∃ k : Nat, k ≤ ns.length ∧ i = .int .i64 k ∧ v = .int .i64 (backB ns ord (wM ord 0 ns.length) k) ∧
      Bw (w.alloc (.cells #[.slice ga ns.length gc, .int .i64 r] 24)) wr)
    (fun _ i _ => ns.length - (intOf i).toNat)
  case atStart => exact ⟨0, Nat.zero_le _, rfl, rfl, (by repeat first|exact br _|assumption|apply bd|apply bn|apply ba|refine bt ?_ (by assumption))⟩
  case round =>
    clear hbl
    obtain ⟨k, hk, rfl, rfl, hB⟩ := hrel
    obtain ⟨gcc, gff⟩ := qX hB
    have gz : w.heap.size < wr.heap.size := by have := hB.size; simp at this; omega
    by_cases hlt : k < ns.length
    · go_wp2_with (go_at_call 97; refine (dL ns _ _ _ ord _ _ _ _ (hn.below (by repeat first|exact br _|assumption|apply bd|apply bn|apply ba|refine bt ?_ (by assumption))) (hx.below (by repeat first|exact br _|assumption|apply bd|apply bn|apply ba|refine bt ?_ (by assumption))) hl hgl).mono ?_; rintro e w' ⟨rfl, hbl⟩)
      go_roundw
      case rel => exact ⟨k + 1, by omega, by go_num, rfl, (by repeat first|exact br _|assumption|apply bd|apply bn|apply ba|refine bt ?_ (by assumption))⟩
      case measure => simp [intOf]; omega
    · have hkk : k = ns.length := by omega
      subst hkk
      have hs : Hid (backB ns ord (wM ord 0 ns.length) ns.length = cycS ns ord) := rfl
      rw [qK hs]
      clear hs
      go_wp2_with (go_at_call 97; refine (dL ns _ _ _ ord _ _ _ _ (hn.below (by repeat first|exact br _|assumption|apply bd|apply bn|apply ba|refine bt ?_ (by assumption))) (hx.below (by repeat first|exact br _|assumption|apply bd|apply bn|apply ba|refine bt ?_ (by assumption))) hl hgl).mono ?_; rintro e w' ⟨rfl, hbl⟩)
      go_loopw [7, 8] (fun v i wi => ∃ (l : List Int) (n : Int) (f : Nat), i = .int .i64 n ∧ Own (w.alloc (.cells #[.slice ga ns.length gc, .int .i64 r] 24)) wi v l ∧ l.length + f = ns.length ∧ 0 < l.length ∧ cC ns ord (cycS ns ord) f l n = cycB ns ord ∧ Bw (w.alloc (.cells #[.slice ga ns.length gc, .int .i64 r] 24)) wi)
        (fun v _ _ => ns.length - lenOf v)
      case atStart => exact ⟨[cycS ns ord], _, ns.length - 1, rfl, (own_one _ hB).bw (by repeat first|exact br _|assumption|apply bd|apply bn|apply ba|refine bt ?_ (by assumption)), by simp; omega, by simp, rfl, (by repeat first|exact br _|assumption|apply bd|apply bn|apply ba|refine bt ?_ (by assumption))⟩
      case round =>
        clear hB gcc gff gz hbl
        obtain ⟨l, n, f, rfl, hown, hlf, hl0, hcy, hB⟩ := hrel
        have Hcy := qJ hcy
        clear hcy
        obtain ⟨gcc, gff⟩ := qX hB
        have gz : w.heap.size < wr.heap.size := by have := hB.size; simp at this; omega
        obtain ⟨la, lc, rfl, hlx, hml⟩ := hown.form
        cases hns : (n == cycS ns ord) with
        | true =>
          have Hns := qJ hns
          have hns' : (n != cycS ns ord) = false := by simp [bne, hns]
          clear hns
          go_wp2
          go_ret
          exact ⟨_, rfl, by rw [← qK Hcy, cycGo_stop (qK Hns)]; exact hown.weaken (by repeat first|exact br _|assumption|apply bd|apply bn|apply ba|refine bt ?_ (by assumption)), (by repeat first|exact br _|assumption|apply bd|apply bn|apply ba|refine bt ?_ (by assumption))⟩
        | false =>
          have Hns := qJ hns
          have hns' : (n != cycS ns ord) = true := by simp [bne, hns]
          clear hns
          by_cases hlt : l.length < ns.length
          · obtain ⟨f', rfl⟩ : ∃ f', f = f' + 1 := ⟨f - 1, by omega⟩
            go_wp2_with (first | (at_builtin; refine appN _ rfl _ _ rfl _ _ [n] rfl (own_one n hB) _ _ l rfl (hlx.below (by repeat first|exact br _|assumption|apply bd|apply bn|apply ba|refine bt ?_ (by assumption))) hl0 (by simp; omega) (by repeat first|exact br _|assumption|apply bd|apply bn|apply ba|refine bt ?_ (by assumption)) ?_; intro v' w1 hown1 hB1 hgr1; obtain ⟨gc1, gf1⟩ := qX hB1) | (go_at_call 97; refine (dL ns _ _ _ ord _ _ _ _ (hn.below (by repeat first|exact br _|assumption|apply bd|apply bn|apply ba|refine bt ?_ (by assumption))) (hx.below (by repeat first|exact br _|assumption|apply bd|apply bn|apply ba|refine bt ?_ (by assumption))) hl hgl).mono ?_; rintro e w' ⟨rfl, hbl⟩))
            go_roundw
            case rel => exact ⟨n :: l, tG ns ord n, f', rfl, hown1.bw (by repeat first|exact br _|assumption|apply bd|apply bn|apply ba|refine bt ?_ (by assumption)), by simp; omega, by simp, by rw [← qK Hcy, cycGo_on (qK Hns)], (by repeat first|exact br _|assumption|apply bd|apply bn|apply ba|refine bt ?_ (by assumption))⟩
            case measure => rw [hown1.len]; simp [lenOf]; omega
          · have hf0 : f = 0 := by omega
            subst hf0
            go_wp2
            go_ret
            exact ⟨_, rfl, by rw [← qK Hcy]; exact hown.weaken (by repeat first|exact br _|assumption|apply bd|apply bn|apply ba|refine bt ?_ (by assumption)), (by repeat first|exact br _|assumption|apply bd|apply bn|apply ba|refine bt ?_ (by assumption))⟩
def xY (ns : List Nd) (r : Int) : Int := if wfB ns r then (if (vW ns).length < ns.length then 2 else 0) else 1
def CheckL (w w' : World) (v : Value) (ns : List Nd) (r : Int) : Prop :=
  if xY ns r = 2 then Own w w' v (cycB ns (vW ns)) else v = .slice none 0 0
theorem wfB_len {ns : List Nd} {r : Int} (h : wfB ns r = true) : 1 ≤ ns.length ∧ ns.length ≤ 8 := by
  simp [wfB] at h; omega
set_option maxHeartbeats 1000000 in
theorem gcheck_any (ns : List Nd) (ga : Option Addr) (gc : Nat) (r : Int) (w : World) (hn : NodesAt w ga ns) (hgl : ns.length ≤ maxLen) :
    Calls Try.prog 38 #[.agg #[.slice ga ns.length gc, .int .i64 r]] w fun e w' => ∃ v, e = .returned (.tuple #[.int .i64 (xY ns r), v]) ∧ CheckL w w' v ns r ∧ Bw w w' := by
  cases hwf : wfB ns r with
  | false =>
    have HW := qJ hwf
    clear hwf
    go_enter Try.func38, Try.ntmps38
    go_wp2_with (go_at_call 66; refine (wf_any ns _ _ _ _ (hn.below (by repeat first|exact br _|assumption|apply bd|apply bn|apply ba|refine bt ?_ (by assumption))) hgl).mono ?_; rintro e w' ⟨rfl, hbl⟩; rw [qK HW]; obtain ⟨hcc, hff⟩ := qX hbl; have hz0 : w.heap.size < w'.heap.size := (by have := hbl.size; (try simp at this); omega))
    go_ret2
    have he : xY ns r = 1 := by simp [xY, qK HW]
    exact ⟨_, by rw [he]; rfl, by unfold CheckL; rw [he]; simp, (by repeat first|exact br _|assumption|apply bd|apply bn|apply ba|refine bt ?_ (by assumption))⟩
  | true =>
    have HW := qJ hwf
    obtain ⟨h1, h8⟩ := wfB_len hwf
    clear hwf
    by_cases hlt : (vW ns).length < ns.length
    · have he : Hid (xY ns r = 2) := qJ (by simp [xY, qK HW, hlt])
      go_enter Try.func38, Try.ntmps38
      go_wp2_with (first | (go_at_call 66; refine (wf_any ns _ _ _ _ (hn.below (by repeat first|exact br _|assumption|apply bd|apply bn|apply ba|refine bt ?_ (by assumption))) hgl).mono ?_; rintro e w' ⟨rfl, hbl⟩; rw [qK HW]; obtain ⟨hcc, hff⟩ := qX hbl; have hz0 : w.heap.size < w'.heap.size := (by have := hbl.size; (try simp at this); omega)) | (go_at_call 67; refine (order_any ns _ _ _ _ (hn.below (by repeat first|exact br _|assumption|apply bd|apply bn|apply ba|refine bt ?_ (by assumption))) h8).mono ?_; rintro e w' ⟨v, rfl, hown, hbl⟩; obtain ⟨oa, oc, rfl, hox, hom⟩ := hown.form; obtain ⟨hcc, hff⟩ := qX hbl; have hz0 : w.heap.size < w'.heap.size := (by have := hbl.size; (try simp at this); omega)) | (go_at_call 68; refine (cycle_any ns _ _ _ (vW ns) _ _ _ (hn.below (by repeat first|exact br _|assumption|apply bd|apply bn|apply ba|refine bt ?_ (by assumption))) (hox.below (by repeat first|exact br _|assumption|apply bd|apply bn|apply ba|refine bt ?_ (by assumption))) hom h1 h8).mono ?_; rintro e w' ⟨v, rfl, hcy, hbl⟩))
      go_ret2
      exact ⟨_, by rw [qK he]; rfl, by unfold CheckL; rw [qK he]; simp; exact hcy.weaken (by repeat first|exact br _|assumption|apply bd|apply bn|apply ba|refine bt ?_ (by assumption)), (by repeat first|exact br _|assumption|apply bd|apply bn|apply ba|refine bt ?_ (by assumption))⟩
    · have he : Hid (xY ns r = 0) := qJ (by simp [xY, qK HW, hlt])
      go_enter Try.func38, Try.ntmps38
      go_wp2_with (first | (go_at_call 66; refine (wf_any ns _ _ _ _ (hn.below (by repeat first|exact br _|assumption|apply bd|apply bn|apply ba|refine bt ?_ (by assumption))) hgl).mono ?_; rintro e w' ⟨rfl, hbl⟩; rw [qK HW]; obtain ⟨hcc, hff⟩ := qX hbl; have hz0 : w.heap.size < w'.heap.size := (by have := hbl.size; (try simp at this); omega)) | (go_at_call 67; refine (order_any ns _ _ _ _ (hn.below (by repeat first|exact br _|assumption|apply bd|apply bn|apply ba|refine bt ?_ (by assumption))) h8).mono ?_; rintro e w' ⟨v, rfl, hown, hbl⟩; obtain ⟨oa, oc, rfl, hox, hom⟩ := hown.form; obtain ⟨hcc, hff⟩ := qX hbl; have hz0 : w.heap.size < w'.heap.size := (by have := hbl.size; (try simp at this); omega)))
      go_ret2
      exact ⟨_, by rw [qK he]; rfl, by unfold CheckL; rw [qK he]; simp, (by repeat first|exact br _|assumption|apply bd|apply bn|apply ba|refine bt ?_ (by assumption))⟩
def qF (x : Nd) : List Int := if x.kind == 0 then [] else if x.kind == 3 then [x.a, x.b] else [x.a]
theorem inputsL_0 {x : Nd} (h : (x.kind == 0) = true) : qF x = [] := by simp [qF, h]
theorem inputsL_3 {x : Nd} (h : x.kind = 3) : qF x = [x.a, x.b] := by simp [qF, h]
theorem inputsL_1 {x : Nd} (h : x.kind ≠ 0) (h3 : x.kind ≠ 3) : qF x = [x.a] := by simp [qF, h, h3]
theorem uG (x : Nd) (n : Int) : qL x n = jF (qF x) n := by
  by_cases h0 : x.kind = 0
  · rw [inputsL_0 (by simp [h0])]; simp [qL, jF, h0]
  · by_cases h3 : x.kind = 3
    · rw [inputsL_3 h3, Bool.eq_iff_iff]; simp [qL, jF, h3]; constructor <;> (rintro (h | h) <;> simp [h])
    · rw [inputsL_1 h0 h3, Bool.eq_iff_iff]; simp [qL, jF, h0, h3]; constructor <;> (intro h; simp [h])
def rR (x : Nd) : Bool :=
  if x.kind == 0 then (x.a == 0) && (x.b == 0) && (x.k == 0) && (x.m == 0)
  else if x.kind == 1 then (x.b == 0) && (x.m == 0)
  else if x.kind == 2 then (x.b == 0) && decide (1 ≤ x.k) && decide (x.k ≤ 100) && decide (0 ≤ x.m) && decide (x.m < x.k)
  else if x.kind == 3 then (x.k == 0) && (x.m == 0) && !(x.a == x.b)
  else if x.kind == 4 then (x.b == 0) && (x.k == 0) && (x.m == 0)
  else if x.kind == 5 then (x.b == 0) && (x.k == 0) && (x.m == 0)
  else if x.kind == 6 then (x.b == 0) && (x.m == 0) && decide (1 ≤ x.k) && decide (x.k ≤ 8)
  else if x.kind == 7 then (x.b == 0) && (x.k == 0) && (x.m == 0)
  else false
def inB (ns : List Nd) (x : Nd) : Bool := (qF x).all (gM ns)
theorem cF (ns : List Nd) (x : Nd) : zN ns x = (rR x && inB ns x) := by
  obtain ⟨kind, a, b, k, m⟩ := x
  by_cases h0 : kind = 0
  · subst h0; rw [Bool.eq_iff_iff]; simp [zN, rR, inB, qF]; omega
  by_cases h3 : kind = 3
  · subst h3; rw [Bool.eq_iff_iff]; simp [zN, rR, inB, qF]
    constructor
    · rintro ⟨h1, h2, ⟨h4, h5⟩, h6⟩; exact ⟨⟨⟨h6, h2⟩, h5⟩, h1, h4⟩
    · rintro ⟨⟨⟨h6, h2⟩, h5⟩, h1, h4⟩; exact ⟨h1, h2, ⟨h4, h5⟩, h6⟩
  by_cases h1 : kind = 1
  · subst h1; rw [Bool.eq_iff_iff]; simp [zN, rR, inB, qF]
    constructor
    · rintro ⟨h1, h2, h3⟩; exact ⟨⟨h2, h3⟩, h1⟩
    · rintro ⟨⟨h2, h3⟩, h1⟩; exact ⟨h1, h2, h3⟩
  by_cases h2 : kind = 2
  · subst h2; rw [Bool.eq_iff_iff]; simp [zN, rR, inB, qF]
    constructor
    · rintro ⟨h1, h2, ⟨⟨h3, h4⟩, h5⟩, h6⟩; exact ⟨⟨⟨⟨⟨h2, h3⟩, h4⟩, h5⟩, h6⟩, h1⟩
    · rintro ⟨⟨⟨⟨⟨h2, h3⟩, h4⟩, h5⟩, h6⟩, h1⟩; exact ⟨h1, h2, ⟨⟨h3, h4⟩, h5⟩, h6⟩
  by_cases h6 : kind = 6
  · subst h6; rw [Bool.eq_iff_iff]; simp [zN, rR, inB, qF]
    constructor
    · rintro ⟨h1, h2, h3, h4, h5⟩; exact ⟨⟨⟨⟨h2, h3⟩, h4⟩, h5⟩, h1⟩
    · rintro ⟨⟨⟨⟨h2, h3⟩, h4⟩, h5⟩, h1⟩; exact ⟨h1, h2, h3, h4, h5⟩
  by_cases h4 : kind = 4
  · subst h4; rw [Bool.eq_iff_iff]; simp [zN, rR, inB, qF]
    constructor
    · rintro ⟨h1, h2, h3, h4⟩; exact ⟨⟨⟨h2, h4⟩, h3⟩, h1⟩
    · rintro ⟨⟨⟨h2, h4⟩, h3⟩, h1⟩; exact ⟨h1, h2, h3, h4⟩
  by_cases h5 : kind = 5
  · subst h5; rw [Bool.eq_iff_iff]; simp [zN, rR, inB, qF]
    constructor
    · rintro ⟨h1, h2, h3, h4⟩; exact ⟨⟨⟨h2, h4⟩, h3⟩, h1⟩
    · rintro ⟨⟨⟨h2, h4⟩, h3⟩, h1⟩; exact ⟨h1, h2, h3, h4⟩
  by_cases h7 : kind = 7
  · subst h7; rw [Bool.eq_iff_iff]; simp [zN, rR, inB, qF]
    constructor
    · rintro ⟨h1, h2, h3, h4⟩; exact ⟨⟨⟨h2, h4⟩, h3⟩, h1⟩
    · rintro ⟨⟨⟨h2, h4⟩, h3⟩, h1⟩; exact ⟨h1, h2, h3, h4⟩
  rw [Bool.eq_iff_iff]; simp [zN, rR, h0, h1, h2, h3, h4, h5, h6, h7]
def mL (best d : Int) : Int := if 0 ≤ d ∧ (best < 0 ∨ d < best) then d else best
def dB (ns : List Nd) (x : Int) (f : Int → Int) (k : Nat) : Int := if (k : Int) = x then 0 else if 0 ≤ f k ∧ (qV ns k).kind = 4 then f k + 1 else f k
def zS (ns : List Nd) (f : Int → Int) (n x : Int) : Nat → Int
  | 0 => -1
  | k + 1 => if qL (qV ns k) n then mL (zS ns f n x k) (dB ns x f k) else zS ns f n x k
def yS (ns : List Nd) (x : Int) : Nat → Int → Int
  | 0, _ => -1
  | s + 1, n => zS ns (yS ns x s) n x ns.length
theorem fW {ns : List Nd} {f : Int → Int} {n x : Int} {k : Nat} (h : qL (qV ns k) n = false) : zS ns f n x (k + 1) = zS ns f n x k := by simp [zS, h]
theorem fT {ns : List Nd} {f : Int → Int} {n x : Int} {k : Nat} (h : qL (qV ns k) n = true) : zS ns f n x (k + 1) = mL (zS ns f n x k) (dB ns x f k) := by simp [zS, h]
theorem stepB_bd {best d c : Int} (h1 : -1 ≤ best) (h2 : best ≤ c) (h4 : d ≤ c) : -1 ≤ mL best d ∧ mL best d ≤ c := by
  unfold mL; split <;> omega
theorem leastTo_bd {ns : List Nd} {f : Int → Int} {n x : Int} {c : Int} (hc : 0 ≤ c) (hf : ∀ y, -1 ≤ f y ∧ f y ≤ c) (k : Nat) : -1 ≤ zS ns f n x k ∧ zS ns f n x k ≤ c + 1 := by
  induction k with
  | zero => simp [zS]; omega
  | succ k ih =>
    cases h : qL (qV ns k) n with
    | false => rw [fW h]; exact ih
    | true =>
      rw [fT h]
      refine stepB_bd ih.1 ih.2 ?_
      have := hf k
      unfold dB; split
      · omega
      · split <;> omega
theorem leastB_bd (ns : List Nd) (x : Int) (s : Nat) : ∀ n, -1 ≤ yS ns x s n ∧ yS ns x s n ≤ s := by
  induction s with
  | zero => intro n; simp [yS]
  | succ s ih => intro n; have := leastTo_bd (ns := ns) (n := n) (x := x) (c := s) (by omega) ih ns.length; unfold yS; omega
theorem stepB_yes {best d : Int} (h0 : 0 ≤ d) (h : best < 0 ∨ d < best) : mL best d = d := by simp [mL, h0, h]
theorem stepB_neg {best d : Int} (h0 : d < 0) : mL best d = best := by unfold mL; rw [if_neg (by omega)]
theorem dB_x {ns : List Nd} {x : Int} {f : Int → Int} {k : Nat} (h : (k : Int) = x) : dB ns x f k = 0 := by simp [dB, h]
theorem dB_back {ns : List Nd} {x : Int} {f : Int → Int} {k : Nat} (h : ¬ (k : Int) = x) (h0 : 0 ≤ f k) (h4 : (qV ns k).kind = 4) : dB ns x f k = f k + 1 := by simp [dB, h, h0, h4]
theorem dB_not {ns : List Nd} {x : Int} {f : Int → Int} {k : Nat} (h : ¬ (k : Int) = x) (h4 : ¬ (0 ≤ f k ∧ (qV ns k).kind = 4)) : dB ns x f k = f k := by unfold dB; rw [if_neg h, if_neg h4]
theorem qP {w w' : World} {base size k : Nat} {e : TypeId} {u : Value} {ys : List Value} (h : w.ownsRow base e size u k ys) (hb : ∀ g, g < w.heap.size → w'.heap[g]? = w.heap[g]?) : w'.ownsRow base e size u k ys := by
  obtain ⟨hl, h⟩ := h
  refine ⟨hl, ?_⟩
  rcases h with h | ⟨g, cap, cur, e1, hg, hc, r⟩
  · exact .inl h
  · exact .inr ⟨g, cap, cur, e1, hg, (hb g (Array.getElem?_eq_some_iff.1 hc).1).trans hc, r⟩
theorem wD {P : Program} (w : World) (base : Nat) (t ty e : TypeId) (i : TypeInfo) (z : Value) (size bytes : Nat) (ht : P.underlying t = some (.slice e)) (hi : P.info? e = some i) (hz : i.zero = some z)
    (hsize : i.size = size) (hby : i.bytes = bytes) (hzs : z.cells.size = size) (hsz : 0 < size)
    (v : Value) (n : Nat) (xs : List Value) (hown : w.ownsRow base e size v n xs)
    (a : Addr) (m c : Nat) (news : List Value) (hm : 0 < m) (hl : news.length = m * size) (hnews : ∀ j u, news[j]? = some u → w.cell? (a.add j) = some u) (h1 : ∀ u ∈ news, u.oneCell' = true)
    (h63 : n + m ≤ maxLen) (hbytes : (n + m) * bytes ≤ 140737488355328) (hbase : base ≤ w.heap.size) :
    ∃ v' w', (Builtin.append_ #[t, t] ty #[v, .slice (some a) m c]).run P w = .ok v' w' ∧ w'.ownsRow base e size v' (n + m) (xs ++ news) ∧ w.grownBy w' v.ownBlock ∧
      (∀ base' u k ys, w.ownsRow base' e size u k ys → k ≤ n → w'.ownsRow base' e size u k ys) := by
  obtain ⟨v', w', hr, h2, h3, _⟩ := run_append_own (P := P) w base t ty e i z size bytes ht hi hz hsize hby hzs hsz v n xs hown a m c news hl hnews h1 h63 hbytes hbase
  refine ⟨v', w', hr, h2, h3, ?_⟩
  subst hsize
  subst hby
  have hsmall : n + m ≤ 9223372036854775807 := by simp only [maxLen] at h63; omega
  intro base' u k ys hu hk
  rcases hown.2 with ⟨rfl, rfl⟩ | ⟨g, cap, cur, rfl, hbg, hg, hnc, hcm, hcs, htake⟩
  · have hr2 := run_append_nil (P := P) w t ty e i z ht hi hz a m c news hl hnews hm (by omega) (by simp only [Nat.zero_add] at hbytes; omega)
    rw [hr2] at hr
    simp only [Result.ok.injEq] at hr
    obtain ⟨_, rfl⟩ := hr
    exact qP hu fun g hg => Below.heap_alloc w.drew _ g hg
  · by_cases hroom : n + m ≤ cap
    · have hfit : n * i.size + news.length ≤ cur.size := by rw [hl, hcs, ← Nat.add_mul]; exact Nat.mul_le_mul_right _ hroom
      have hr2 := run_append_room (P := P) w t ty e i ht hi g n cap cur hg a m c news hl hnews h1 hroom hfit
      rw [hr2] at hr
      simp only [Result.ok.injEq] at hr
      obtain ⟨_, rfl⟩ := hr
      obtain ⟨hyl, hu⟩ := hu
      refine ⟨hyl, ?_⟩
      rcases hu with hu | ⟨g', cap', cur', e1, hb', hg', hk', hcm', hcs', ht'⟩
      · exact .inl hu
      · by_cases hgg : g' = g
        · subst hgg
          rw [hg] at hg'
          simp only [Option.some.injEq, Obj.cells.injEq, and_true] at hg'
          obtain ⟨rfl, _⟩ := hg'
          refine .inr ⟨g', cap', _, e1, hb', setRow_heap w g' cur _ e _ hg, hk', hcm', ?_, ?_⟩
          · simp only [List.size_toArray, List.length_append, List.length_take, List.length_drop, Array.length_toList]
            omega
          · have hle : k * i.size ≤ n * i.size := Nat.mul_le_mul_right _ hk
            rw [List.append_assoc, List.take_append_of_le_length (by rw [List.length_take, Array.length_toList]; omega), List.take_take, Nat.min_eq_left hle]
            exact ht'
        · exact .inr ⟨g', cap', cur', e1, hb', (setRow_other w g g' _ hgg).trans hg', hk', hcm', hcs', ht'⟩
    · have holds : ∀ j u, xs[j]? = some u → w.cell? ((⟨g, 0, none⟩ : Addr).add j) = some u := hown.cells (g := g) rfl
      have hr2 := run_append_grow (P := P) w t ty e i z ht hi hz ⟨g, 0, none⟩ n cap xs hown.1 holds a m c news hl hnews (by omega) (by omega) (growslice_fits (by omega) hbytes)
      rw [hr2] at hr
      simp only [Result.ok.injEq] at hr
      obtain ⟨_, rfl⟩ := hr
      exact qP hu fun g hg => Below.heap_alloc w.drew _ g hg
theorem Try.infoNode : (Try.prog.info? 32).map (fun i => (i.zero, i.size, i.bytes)) = some (some (.agg #[.int .i64 0, .int .i64 0, .int .i64 0, .int .i64 0, .int .i64 0]), 5, 40) := by kernel_rfl
def Nd.cells (x : Nd) : List Value := [.int .i64 x.kind, .int .i64 x.a, .int .i64 x.b, .int .i64 x.k, .int .i64 x.m]
def qM (ns : List Nd) : List Value := ns.flatMap Nd.cells
theorem uP (ns : List Nd) : (qM ns).length = ns.length * 5 := by
  induction ns with
  | nil => rfl
  | cons x l ih => simp only [qM, List.flatMap_cons, List.length_append] at ih ⊢; rw [ih]; simp [Nd.cells]; omega
theorem ndn_lt {ns : List Nd} {j : Nat} (h : j < ns.length) : qV ns j = ns[j] := lJ _ _ h
theorem pQ (ns : List Nd) : ∀ (j : Nat), j < ns.length → ∀ f, f < 5 → (qM ns)[j * 5 + f]? = (Nd.cells (qV ns j))[f]? := by
  induction ns with
  | nil => intro j hj; simp at hj
  | cons x l ih =>
    intro j hj f hf
    cases j with
    | zero =>
      simp only [qM, List.flatMap_cons, Nat.zero_mul, Nat.zero_add]
      rw [List.getElem?_append_left (by simp [Nd.cells]; omega)]
      rfl
    | succ j =>
      simp only [qM, List.flatMap_cons]
      rw [List.getElem?_append_right (by simp [Nd.cells]; omega)]
      have := ih j (by simpa using hj) f hf
      simp only [qM] at this
      rw [show (j + 1) * 5 + f - (Nd.cells x).length = j * 5 + f by simp [Nd.cells]; omega, this]
      rfl
theorem uN (ns : List Nd) : ∀ u ∈ qM ns, u.oneCell' = true := by
  intro u hu
  simp only [qM, List.mem_flatMap, Nd.cells] at hu
  obtain ⟨x, _, hu⟩ := hu
  simp at hu
  rcases hu with rfl | rfl | rfl | rfl | rfl <;> rfl
theorem nodeCells_src {w : World} {ns : List Nd} {b off : Nat} (hc : ∀ j, j < ns.length →
    w.cell? ⟨b, off + j * 5, none⟩ = some (.int .i64 (qV ns j).kind) ∧ w.cell? ⟨b, off + j * 5 + 1, none⟩ = some (.int .i64 (qV ns j).a) ∧
    w.cell? ⟨b, off + j * 5 + 2, none⟩ = some (.int .i64 (qV ns j).b) ∧ w.cell? ⟨b, off + j * 5 + 3, none⟩ = some (.int .i64 (qV ns j).k) ∧
    w.cell? ⟨b, off + j * 5 + 4, none⟩ = some (.int .i64 (qV ns j).m)) : ∀ p u, (qM ns)[p]? = some u → w.cell? ((⟨b, off, none⟩ : Addr).add p) = some u := by
  intro p u hp
  have hlt : p < ns.length * 5 := by
    by_cases h : p < ns.length * 5
    · exact h
    · rw [List.getElem?_eq_none (by rw [uP]; omega)] at hp; cases hp
  obtain ⟨j, f, hf, rfl⟩ : ∃ j f, f < 5 ∧ p = j * 5 + f := ⟨p / 5, p % 5, Nat.mod_lt _ (by omega), by omega⟩
  have hj : j < ns.length := by omega
  rw [pQ ns j hj f hf] at hp
  obtain ⟨c0, c1, c2, c3, c4⟩ := hc j hj
  refine uD ?_
  rw [← Nat.add_assoc]
  match f, hf with
  | 0, _ => simp [Nd.cells] at hp; subst hp; exact c0
  | 1, _ => simp [Nd.cells] at hp; subst hp; exact c1
  | 2, _ => simp [Nd.cells] at hp; subst hp; exact c2
  | 3, _ => simp [Nd.cells] at hp; subst hp; exact c3
  | 4, _ => simp [Nd.cells] at hp; subst hp; exact c4
theorem qQ {w : World} {g o : Nat} {cs : Array Value} {t : TypeId} {u : Value} (h : w.heap[g]? = some (.cells cs t (0, 0))) (hu : cs[o]? = some u) : w.cell? ⟨g, o, none⟩ = some u := by
  simp [World.cell?, h, hu]
theorem qZ {w : World} {g o : Nat} {cs : Array Value} {t : TypeId} (h : w.heap[g]? = some (.cells cs t (0, 0))) : w.frozen? ⟨g, o, none⟩ = false := by
  simp [World.frozen?, h]
theorem gF {w : World} {g o b p : Nat} {v : Value} (h : g ≠ b ∨ o ≠ p) : (w.setCell ⟨g, o, none⟩ v).cell? ⟨b, p, none⟩ = w.cell? ⟨b, p, none⟩ :=
  World.cell?_setCell_other _ _ _ _ (by intro e; simp at e; omega)
theorem gG {w : World} {g o : Nat} {v u : Value} (h : w.cell? ⟨g, o, none⟩ = some u) : (w.setCell ⟨g, o, none⟩ v).cell? ⟨g, o, none⟩ = some v :=
  World.cell?_setCell_same _ _ _ h
theorem qN (w : World) (o : Obj) {g : Nat} (hg : g = w.heap.size) : (w.alloc o).heap[g]? = some o := by subst hg; exact heap_alloc_new w o
theorem Own.ints {W w : World} {ad : Option Addr} {n cap : Nat} {xs : List Int} (h : Own W w (.slice ad n cap) xs) : IntsAt w ad xs ∧ n = xs.length := by
  obtain ⟨ad', c', e, hx, _⟩ := h.form
  simp at e
  obtain ⟨rfl, rfl, _⟩ := e
  exact ⟨hx, rfl⟩
def jT (c n : Int) : Int := if c < 0 then (-(c + 1)) % n else c % n
theorem jC (c : Int) {n : Int} (h : 0 < n) : 0 ≤ jT c n ∧ jT c n < n := by
  unfold jT
  split
  · exact ⟨Int.emod_nonneg _ (by omega), Int.emod_lt_of_pos _ h⟩
  · exact ⟨Int.emod_nonneg _ (by omega), Int.emod_lt_of_pos _ h⟩
theorem pick_neg {c n : Int} (h : c < 0) : -(c + 1).tmod n = (-(c + 1)) % n := by
  rw [← Int.neg_tmod, Int.tmod_eq_emod_of_nonneg (by omega)]
set_option maxHeartbeats 1000000 in
theorem vL (c n : Int) (w : World) (h1 : -9223372036854775808 ≤ c) (h2 : c ≤ 9223372036854775807) (hn : 0 < n) (hn2 : n ≤ 1000) :
    Calls Try.prog 16 #[.int .i64 c, .int .i64 n] w fun e w' => e = .returned (.int .i64 (jT c n)) ∧ w' = w := by
  have hn0 : (n == 0) = false := by simp; omega
  have hnm : ¬ n = -1 := by omega
  by_cases hc : c < 0
  · have Hp : Hid (jT c n = (-(c + 1)) % n) := qJ (by unfold jT; rw [if_pos hc])
    go_enter Try.func16, Try.ntmps16
    go_wp2
    go_ret
    exact ⟨kN (by rw [qK Hp, ← pick_neg (by omega)]), rfl⟩
  · have Hp : Hid (jT c n = c % n) := qJ (by unfold jT; rw [if_neg hc])
    go_enter Try.func16, Try.ntmps16
    go_wp2
    go_ret
    exact ⟨kN (by rw [qK Hp]), rfl⟩
def chB (ns : List Nd) (n : Nat) (a : Nat) : Bool := !((qV ns a).kind == 7) && (((qV ns a).kind == 4) || decide (a < n) || ((qV ns n).kind == 4))
def zT (ns : List Nd) (n : Nat) : Nat → List Int
  | 0 => []
  | k + 1 => if chB ns n k then zT ns n k ++ [(k : Int)] else zT ns n k
theorem chTo_len (ns : List Nd) (n k : Nat) : (zT ns n k).length ≤ k := by
  induction k with
  | zero => simp [zT]
  | succ k ih =>
    unfold zT
    split
    · simp; omega
    · omega
theorem mZ {ns : List Nd} {n k : Nat} (h : chB ns n k = true) : zT ns n (k + 1) = zT ns n k ++ [(k : Int)] := by simp [zT, h]
theorem bR {ns : List Nd} {n k : Nat} (h : chB ns n k = false) : zT ns n (k + 1) = zT ns n k := by simp [zT, h]
theorem chTo_mem {ns : List Nd} {n : Nat} : ∀ k z, z ∈ zT ns n k → ∃ a : Nat, z = a ∧ a < k ∧ chB ns n a = true := by
  intro k
  induction k with
  | zero => intro z hz; simp [zT] at hz
  | succ k ih =>
    intro z hz
    cases h : chB ns n k with
    | true =>
      rw [mZ h, List.mem_append] at hz
      rcases hz with hz | hz
      · obtain ⟨a, e, ha, hc⟩ := ih z hz; exact ⟨a, e, by omega, hc⟩
      · simp at hz; exact ⟨k, hz, by omega, h⟩
    | false => rw [bR h] at hz; obtain ⟨a, e, ha, hc⟩ := ih z hz; exact ⟨a, e, by omega, hc⟩
theorem chTo_has {ns : List Nd} {n : Nat} : ∀ k a, a < k → chB ns n a = true → (a : Int) ∈ zT ns n k := by
  intro k
  induction k with
  | zero => intro a ha; omega
  | succ k ih =>
    intro a ha hc
    by_cases e : a = k
    · subst e; rw [mZ hc]; simp
    · have := ih a (by omega) hc
      cases h : chB ns n k with
      | true => rw [mZ h]; simp [this]
      | false => rw [bR h]; exact this
theorem chTo_nodup (ns : List Nd) (n k : Nat) : (zT ns n k).Nodup := by
  induction k with
  | zero => simp [zT]
  | succ k ih =>
    cases h : chB ns n k with
    | true =>
      rw [mZ h, List.nodup_append]
      refine ⟨ih, by simp, ?_⟩
      intro a ha b hb e
      simp at hb
      obtain ⟨c, e2, hc, _⟩ := chTo_mem k a ha
      omega
    | false => rw [bR h]; exact ih
set_option maxRecDepth 100000 in
set_option maxHeartbeats 2000000 in
theorem yW (ns : List Nd) (ga : Option Addr) (gc : Nat) (r : Int) (n : Nat) (w : World) (hn : NodesAt w ga ns) (hg : ns.length ≤ 8) (hnl : n < ns.length) :
    Calls Try.prog 73 #[.agg #[.slice ga ns.length gc, .int .i64 r], .int .i64 (n : Int)] w fun e w' => ∃ v, e = .returned v ∧ Own w w' v (zT ns n ns.length) ∧ Bw w w' := by
  go_enter Try.func73, Try.ntmps73
  go_wp2
  go_loopw [5, 6] (fun v i wr => ∃ k : Nat, k ≤ ns.length ∧ i = .int .i64 k ∧ Own (w.alloc (.cells #[.slice ga ns.length gc, .int .i64 r] 24)) wr v (zT ns n k) ∧ Bw (w.alloc (.cells #[.slice ga ns.length gc, .int .i64 r] 24)) wr) (fun _ i _ => ns.length - (intOf i).toNat)
  case atStart => exact ⟨0, Nat.zero_le _, rfl, Own.nil _ _, Bw.refl _⟩
  case round =>
    obtain ⟨k, hk, rfl, hown, hB⟩ := hrel
    obtain ⟨gcc, gff⟩ := qX hB
    have gz : w.heap.size < wr.heap.size := by have := hB.size; simp at this; omega
    have hol := chTo_len ns n k
    by_cases hlt : k < ns.length
    · obtain ⟨b, off, rfl, hb, hc⟩ := hn k hlt
      obtain ⟨c0, _⟩ := hc k hlt
      obtain ⟨d0, _⟩ := hc n hnl
      clear hc
      have n1 : (0 : Int) ≤ (n : Int) := by omega
      have n2 : (n : Int) < (ns.length : Int) := by omega
      have Hy := qJ (@mZ ns n k)
      have Hn := qJ (@bR ns n k)
      cases e7 : ((qV ns k).kind == 7) with
      | true =>
        have e7' : ((qV ns k).kind != 7) = false := by simp [bne, e7]
        have Hs := qJ ((qK Hn) (by simp [chB, e7]))
        go_wp2_with fail
        go_roundw
        case rel => exact ⟨k + 1, by omega, by go_num, by rw [qK Hs]; exact hown, hB⟩
        case measure => simp [intOf]; omega
      | false =>
        have e7' : ((qV ns k).kind != 7) = true := by simp [bne, e7]
        cases hcc : chB ns n k with
        | true =>
          have Hs := qJ ((qK Hy) hcc)
          have hcd := hcc
          unfold chB at hcd
          rw [e7] at hcd
          have Hcd := qJ hcd
          clear hcc hcd
          cases e4 : ((qV ns k).kind == 4) with
          | true =>
            go_wp2_with (at_builtin; refine mK _ rfl _ _ rfl _ _ (zT ns n k) rfl (hown.bw (by repeat first|exact br _|assumption|apply bd|apply bn|apply ba|refine bt ?_ (by assumption))) _ _ (k : Int) rfl (by simp) (by omega) (by repeat first|exact br _|assumption|apply bd|apply bn|apply ba|refine bt ?_ (by assumption)) ?_; intro v' w1 hown1 hB1 hgr1)
            go_roundw
            case rel => exact ⟨k + 1, by omega, by go_num, by rw [qK Hs]; exact hown1, hB1⟩
            case measure => simp [intOf]; omega
          | false =>
            by_cases hkn : k < n
            · go_wp2_with (at_builtin; refine mK _ rfl _ _ rfl _ _ (zT ns n k) rfl (hown.bw (by repeat first|exact br _|assumption|apply bd|apply bn|apply ba|refine bt ?_ (by assumption))) _ _ (k : Int) rfl (by simp) (by omega) (by repeat first|exact br _|assumption|apply bd|apply bn|apply ba|refine bt ?_ (by assumption)) ?_; intro v' w1 hown1 hB1 hgr1)
              go_roundw
              case rel => exact ⟨k + 1, by omega, by go_num, by rw [qK Hs]; exact hown1, hB1⟩
              case measure => simp [intOf]; omega
            · have en4 : ((qV ns n).kind == 4) = true := by have := qK Hcd; rw [e4] at this; simp [hkn] at this; simp [this]
              have hd : decide (k < n) = false := by simpa using hkn
              go_wp2_with (at_builtin; refine mK _ rfl _ _ rfl _ _ (zT ns n k) rfl (hown.bw (by repeat first|exact br _|assumption|apply bd|apply bn|apply ba|refine bt ?_ (by assumption))) _ _ (k : Int) rfl (by simp) (by omega) (by repeat first|exact br _|assumption|apply bd|apply bn|apply ba|refine bt ?_ (by assumption)) ?_; intro v' w1 hown1 hB1 hgr1)
              go_roundw
              case rel => exact ⟨k + 1, by omega, by go_num, by rw [qK Hs]; exact hown1, hB1⟩
              case measure => simp [intOf]; omega
        | false =>
          have Hs := qJ ((qK Hn) hcc)
          unfold chB at hcc
          rw [e7] at hcc
          simp only [Bool.not_false, Bool.true_and, Bool.or_eq_false_iff] at hcc
          obtain ⟨⟨e4, hkn⟩, en4⟩ := hcc
          have hkn2 : ¬ k < n := by simpa using hkn
          go_wp2_with fail
          go_roundw
          case rel => exact ⟨k + 1, by omega, by go_num, by rw [qK Hs]; exact hown, hB⟩
          case measure => simp [intOf]; omega
    · have hkk : k = ns.length := by omega
      subst hkk
      obtain ⟨la, lc, rfl, _, _⟩ := hown.form
      go_wp2
      go_ret
      exact ⟨_, rfl, hown.weaken (by repeat first|exact br _|assumption|apply bd|apply bn|apply ba|refine bt ?_ (by assumption)), (by repeat first|exact br _|assumption|apply bd|apply bn|apply ba|refine bt ?_ (by assumption))⟩
end Go.Proofs.Ytfemleimkbjehaa
