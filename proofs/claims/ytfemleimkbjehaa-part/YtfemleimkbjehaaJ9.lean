import Derived.Test.YtfemleimkbjehaaJ8
import Derived.Test.YtfemleimkbjehaaJ1
import Derived.Test.YtfemleimkbjehaaJ3
import Derived.Test.YtfemleimkbjehaaJ7
import Derived.Test.YtfemleimkbjehaaJ4
set_option maxRecDepth 1000000
set_option maxHeartbeats 40000000
set_option linter.unusedVariables false
set_option linter.unusedSimpArgs false
namespace Go.Proofs.Ytfemleimkbjehaa
open Go.RowKit
set_option maxRecDepth 100000 in
set_option maxHeartbeats 4000000 in
theorem oneMore_any (ns : List Nd) (ga : Option Addr) (gc : Nat) (r : Int) (fr : List Int) (fa : Option Addr) (fc : Nat) (w : World) (hn : NodesAt w ga ns) (hx : IntsAt w fa fr) (hg : ns.length ≤ 8) (hl1 : fr.length ≤ ns.length) (hlow : Low 8 fr) :
    Calls Try.prog 101 #[.agg #[.slice ga ns.length gc, .int .i64 r], .slice fa fr.length fc] w fun e w' => ∃ v, e = .returned v ∧ Own w w' v (pN ns fr fr.length) ∧ Bw w w' := by
  go_enter Try.func101, Try.ntmps101
  go_wp2_with fail
  go_loopw [5, 12] (fun v i wr => ∃ k : Nat, k ≤ fr.length ∧ i = .int .i64 k ∧ Own (w.alloc (.cells #[.slice ga ns.length gc, .int .i64 r] 24)) wr v (pN ns fr k) ∧ Bw (w.alloc (.cells #[.slice ga ns.length gc, .int .i64 r] 24)) wr) (fun _ i _ => fr.length - (intOf i).toNat)
  case atStart => exact ⟨0, Nat.zero_le _, rfl, Own.nil _ _, Bw.refl _⟩
  case round =>
    obtain ⟨k, hk, rfl, hown, hB⟩ := hrel
    rename World => wo
    have Hml := qJ (zB ns fr k)
    by_cases hlt : k < fr.length
    · obtain ⟨bf, of, rfl, hbf, hcf⟩ := hx k hlt
      have hfk := hcf k hlt
      have Hcf := qJ hcf
      clear hcf
      obtain ⟨b, off, rfl, hb, hc⟩ := hn k (by omega)
      obtain ⟨c0, c1, c2, c3, c4⟩ := hc k (by omega)
      have Hc := qJ hc
      clear hc
      have hbk := hlow k hlt
      have Hmb := qJ (fun y (hy : y ≤ fr.length) => moreTo_bd (ns := ns) (x := k) hlow hbk.1 (by omega) y hy)
      obtain ⟨gcc, gff⟩ := qX hB
      have gz : w.heap.size < wo.heap.size := by have := hB.size; simp at this; omega
      go_wp2_with fail
      go_loopw [7, 19] (fun d i wi => ∃ y : Nat, y ≤ fr.length ∧ i = .int .i64 y ∧ d = .int .i64 (zR ns fr k (kC fr k) y) ∧ Bw wo wi) (fun _ i _ => fr.length - (intOf i).toNat)
      case atStart => exact ⟨0, Nat.zero_le _, rfl, rfl, Bw.refl _⟩
      case round =>
        obtain ⟨y, hy, rfl, rfl, hBi⟩ := hrel
        have hBw : Bw (w.alloc (.cells #[.slice (some ⟨b, off, none⟩) ns.length gc, .int .i64 r] 24)) wr := (by repeat first|exact br _|assumption|apply bd|apply bn|apply ba|refine bt ?_ (by assumption))
        clear gcc gff gz
        obtain ⟨gcc, gff⟩ := qX hBw
        have gz : w.heap.size < wr.heap.size := by have := hBw.size; simp at this; omega
        by_cases hyl : y < fr.length
        · have hfy := (qK Hcf) y hyl
          obtain ⟨e0, _⟩ := (qK Hc) y (by omega)
          have hby := hlow y hyl
          have hbd := (qK Hmb) y hy
          have gzb : b < wr.heap.size := by omega
          have Hskip := qJ (@bQ ns fr k (kC fr k) y)
          have Hgo := qJ (@moreTo_go ns fr k (kC fr k) y)
          have Hy4 := qJ (@toY_back ns fr y)
          have Hyn := qJ (@toY_not ns fr y)
          generalize hdd : zR ns fr k (kC fr k) y = dd at hbd Hskip Hgo
          generalize hff : kC fr y = fy at hfy hby Hskip Hgo Hy4 Hyn
          have Hdd := qJ hdd
          clear hdd hff
          by_cases hm1 : fy = -1
          · have hm2 : (fy == -1) = true := by simp [hm1]
            have Hs := qJ ((qK Hskip) (.inl hm1))
            clear hm1
            go_wp2_with fail
            go_roundw
            case rel => exact ⟨y + 1, by omega, by go_num, by rw [qK Hs], (by repeat first|exact br _|assumption|apply bd|apply bn|apply ba|refine bt ?_ (by assumption))⟩
            case measure => simp [intOf]; omega
          · have hm2 : (fy == -1) = false := by simpa using hm1
            cases ht : qL (qV ns k) y with
            | false =>
              have HT := qJ ht
              have Hs := qJ ((qK Hskip) (.inr ht))
              clear ht hm1
              go_wp2_with (go_at_call 128; refine (vB (qV ns k) _ _).mono ?_; rintro e w' ⟨rfl, hbl⟩; rw [qK HT]; obtain ⟨hcc, hff⟩ := qX hbl)
              go_roundw
              case rel => exact ⟨y + 1, by omega, by go_num, by rw [qK Hs], (by repeat first|exact br _|assumption|apply bd|apply bn|apply ba|refine bt ?_ (by assumption))⟩
              case measure => simp [intOf]; omega
            | true =>
              have HT := qJ ht
              have Hs := qJ ((qK Hgo) hm1 ht)
              clear ht hm1
              by_cases h4 : (qV ns y).kind = 4
              · have h4' : ((qV ns y).kind == 4) = true := by simp [h4]
                have Hy := qJ ((qK Hy4) h4)
                clear h4
                by_cases hd1 : dd = -1
                · have hd2 : (dd == -1) = true := by simp [hd1]
                  have Hb := qJ (uX (t := fy + 1) (.inl hd1))
                  clear hd1
                  go_wp2_with (go_at_call 128; refine (vB (qV ns k) _ _).mono ?_; rintro e w' ⟨rfl, hbl⟩; rw [qK HT]; obtain ⟨hcc, hff⟩ := qX hbl)
                  go_roundw
                  case rel => exact ⟨y + 1, by omega, by go_num, by rw [qK Hs, qK Hy, qK Hb], (by repeat first|exact br _|assumption|apply bd|apply bn|apply ba|refine bt ?_ (by assumption))⟩
                  case measure => simp [intOf]; omega
                · have hd2 : (dd == -1) = false := by simpa using hd1
                  by_cases hd3 : fy + 1 < dd
                  · have Hb := qJ (uX (.inr hd3))
                    clear hd1
                    go_wp2_with (go_at_call 128; refine (vB (qV ns k) _ _).mono ?_; rintro e w' ⟨rfl, hbl⟩; rw [qK HT]; obtain ⟨hcc, hff⟩ := qX hbl)
                    go_roundw
                    case rel => exact ⟨y + 1, by omega, by go_num, by rw [qK Hs, qK Hy, qK Hb], (by repeat first|exact br _|assumption|apply bd|apply bn|apply ba|refine bt ?_ (by assumption))⟩
                    case measure => simp [intOf]; omega
                  · have Hb := qJ (dG hd1 (by omega : dd ≤ fy + 1))
                    clear hd1
                    go_wp2_with (go_at_call 128; refine (vB (qV ns k) _ _).mono ?_; rintro e w' ⟨rfl, hbl⟩; rw [qK HT]; obtain ⟨hcc, hff⟩ := qX hbl)
                    go_roundw
                    case rel => exact ⟨y + 1, by omega, by go_num, by rw [qK Hs, qK Hy, qK Hb], (by repeat first|exact br _|assumption|apply bd|apply bn|apply ba|refine bt ?_ (by assumption))⟩
                    case measure => simp [intOf]; omega
              · have h4' : ((qV ns y).kind == 4) = false := by simpa using h4
                have Hy := qJ ((qK Hyn) h4)
                clear h4
                by_cases hd1 : dd = -1
                · have hd2 : (dd == -1) = true := by simp [hd1]
                  have Hb := qJ (uX (t := fy) (.inl hd1))
                  clear hd1
                  go_wp2_with (go_at_call 128; refine (vB (qV ns k) _ _).mono ?_; rintro e w' ⟨rfl, hbl⟩; rw [qK HT]; obtain ⟨hcc, hff⟩ := qX hbl)
                  go_roundw
                  case rel => exact ⟨y + 1, by omega, by go_num, by rw [qK Hs, qK Hy, qK Hb], (by repeat first|exact br _|assumption|apply bd|apply bn|apply ba|refine bt ?_ (by assumption))⟩
                  case measure => simp [intOf]; omega
                · have hd2 : (dd == -1) = false := by simpa using hd1
                  by_cases hd3 : fy < dd
                  · have Hb := qJ (uX (.inr hd3))
                    clear hd1
                    go_wp2_with (go_at_call 128; refine (vB (qV ns k) _ _).mono ?_; rintro e w' ⟨rfl, hbl⟩; rw [qK HT]; obtain ⟨hcc, hff⟩ := qX hbl)
                    go_roundw
                    case rel => exact ⟨y + 1, by omega, by go_num, by rw [qK Hs, qK Hy, qK Hb], (by repeat first|exact br _|assumption|apply bd|apply bn|apply ba|refine bt ?_ (by assumption))⟩
                    case measure => simp [intOf]; omega
                  · have Hb := qJ (dG hd1 (by omega : dd ≤ fy))
                    clear hd1
                    go_wp2_with (go_at_call 128; refine (vB (qV ns k) _ _).mono ?_; rintro e w' ⟨rfl, hbl⟩; rw [qK HT]; obtain ⟨hcc, hff⟩ := qX hbl)
                    go_roundw
                    case rel => exact ⟨y + 1, by omega, by go_num, by rw [qK Hs, qK Hy, qK Hb], (by repeat first|exact br _|assumption|apply bd|apply bn|apply ba|refine bt ?_ (by assumption))⟩
                    case measure => simp [intOf]; omega
        · have hyy : y = fr.length := by omega
          subst hyy
          go_wp2_with (at_builtin; refine mK _ rfl _ _ rfl _ _ (pN ns fr k) rfl (hown.bw (by repeat first|exact br _|assumption|apply bd|apply bn|apply ba|refine bt ?_ (by assumption))) _ _ (zR ns fr k (kC fr k) fr.length) rfl (by simp) (by have := qK Hml; omega) (by repeat first|exact br _|assumption|apply bd|apply bn|apply ba|refine bt ?_ (by assumption)) ?_; intro v' w1 hown1 hB1 hgr1)
          go_roundw
          case rel => exact ⟨k + 1, by omega, by go_num, hown1, hB1⟩
          case measure => simp [intOf]; omega
    · have hkk : k = fr.length := by omega
      subst hkk
      obtain ⟨la, lc, rfl, _, _⟩ := hown.form
      go_wp2_with fail
      go_ret
      exact ⟨_, rfl, hown.weaken (by repeat first|exact br _|assumption|apply bd|apply bn|apply ba|refine bt ?_ (by assumption)), (by repeat first|exact br _|assumption|apply bd|apply bn|apply ba|refine bt ?_ (by assumption))⟩
theorem Low.mono {c d : Int} {fr : List Int} (h : Low c fr) (hcd : c ≤ d) : Low d fr := fun j hj => ⟨(h j hj).1, by have := (h j hj).2; omega⟩
set_option maxRecDepth 100000 in
set_option maxHeartbeats 4000000 in
theorem distFrom_any (ns : List Nd) (ga : Option Addr) (gc : Nat) (r n : Int) (w : World) (hn : NodesAt w ga ns) (h1 : 1 ≤ ns.length) (h8 : ns.length ≤ 8) :
    Calls Try.prog 75 #[.agg #[.slice ga ns.length gc, .int .i64 r], .int .i64 n] w fun e w' => ∃ v, e = .returned v ∧ Own w w' v (xN ns n (ns.length - 1)) ∧ Bw w w' := by
  go_enter Try.func75, Try.ntmps75
  go_wp2_with fail
  refine (oneStep_any ns _ _ _ _ _ (hn.below (by repeat first|exact br _|assumption|apply bd|apply bn|apply ba|refine bt ?_ (by assumption))) h8).mono ?_
  rintro e w1 ⟨v, rfl, hown, hbl⟩
  have hB1 : Bw (w.alloc (.cells #[.slice ga ns.length gc, .int .i64 r] 24)) w1 := (by repeat first|exact br _|assumption|apply bd|apply bn|apply ba|refine bt ?_ (by assumption))
  have hown1 : Own (w.alloc (.cells #[.slice ga ns.length gc, .int .i64 r] 24)) w1 v (xN ns n 0) := hown.weaken (by repeat first|exact br _|assumption|apply bd|apply bn|apply ba|refine bt ?_ (by assumption))
  clear hown
  go_wp2_with fail
  go_loopw [5, 6] (fun v i wr => ∃ s : Nat, s + 1 ≤ ns.length ∧ i = .int .i64 ((s : Int) + 1) ∧ Own (w.alloc (.cells #[.slice ga ns.length gc, .int .i64 r] 24)) wr v (xN ns n s) ∧ Bw (w.alloc (.cells #[.slice ga ns.length gc, .int .i64 r] 24)) wr) (fun _ i _ => ns.length - (intOf i).toNat)
  case atStart => exact ⟨0, by omega, rfl, hown1, hB1⟩
  case round =>
    clear hown1 hB1
    obtain ⟨s, hs, rfl, hown, hB⟩ := hrel
    obtain ⟨gcc, gff⟩ := qX hB
    have gz : w.heap.size < wr.heap.size := by have := hB.size; simp at this; omega
    obtain ⟨fa, fc, rfl, hfx, hfm⟩ := hown.form
    have Hdl := qJ (pX ns n s)
    by_cases hlt : s + 1 < ns.length
    · have hlow := (distL_low ns n s).mono (d := 8) (by omega)
      go_wp2_with (go_at_call 101; refine (oneMore_any ns _ _ _ (xN ns n s) _ _ _ (hn.below (by repeat first|exact br _|assumption|apply bd|apply bn|apply ba|refine bt ?_ (by assumption))) hfx h8 (by rw [qK Hdl]; exact Nat.le_refl _) hlow).mono ?_; rintro e w2 ⟨v2, rfl, hown2, hbl2⟩)
      go_roundw
      case rel => exact ⟨s + 1, by omega, by go_num, hown2.weaken (by repeat first|exact br _|assumption|apply bd|apply bn|apply ba|refine bt ?_ (by assumption)), (by repeat first|exact br _|assumption|apply bd|apply bn|apply ba|refine bt ?_ (by assumption))⟩
      case measure => simp [intOf]; omega
    · have hss : s = ns.length - 1 := by omega
      subst hss
      go_wp2_with fail
      go_ret
      exact ⟨_, rfl, hown.weaken (by repeat first|exact br _|assumption|apply bd|apply bn|apply ba|refine bt ?_ (by assumption)), (by repeat first|exact br _|assumption|apply bd|apply bn|apply ba|refine bt ?_ (by assumption))⟩
def Chain (ns : List Nd) : Int → List Nat → Nat → Prop
  | n, [], x => qL (qV ns x) n = true
  | n, y :: ys, x => y < ns.length ∧ qL (qV ns y) n = true ∧ Chain ns (y : Int) ys x
def uV (ns : List Nd) (y : Nat) : Int := if (qV ns y).kind = 4 then 1 else 0
def wN (ns : List Nd) : List Nat → Int
  | [] => 0
  | y :: ys => uV ns y + wN ns ys
theorem xR (ns : List Nd) (y : Nat) : 0 ≤ uV ns y ∧ uV ns y ≤ 1 := by unfold uV; split <;> omega
theorem uB (ns : List Nd) (ys : List Nat) : 0 ≤ wN ns ys := by
  induction ys with
  | nil => exact Int.le_refl _
  | cons y ys ih => have := xR ns y; unfold wN; omega
theorem cost_snoc (ns : List Nd) (ys : List Nat) (y : Nat) : wN ns (ys ++ [y]) = wN ns ys + uV ns y := by
  induction ys with
  | nil => simp [wN]
  | cons z ys ih => simp only [List.cons_append, wN, ih]; omega
theorem chain_snoc {ns : List Nd} {x y : Nat} : ∀ {ys : List Nat} {n : Int}, Chain ns n (ys ++ [y]) x ↔ Chain ns n ys y ∧ y < ns.length ∧ qL (qV ns x) y = true := by
  intro ys
  induction ys with
  | nil => intro n; simp only [List.nil_append, Chain]; constructor
           · rintro ⟨h1, h2, h3⟩; exact ⟨h2, h1, h3⟩
           · rintro ⟨h2, h1, h3⟩; exact ⟨h1, h2, h3⟩
  | cons z ys ih => intro n; simp only [List.cons_append, Chain, ih]; constructor
                    · rintro ⟨h1, h2, h3, h4, h5⟩; exact ⟨⟨h1, h2, h3⟩, h4, h5⟩
                    · rintro ⟨⟨h1, h2, h3⟩, h4, h5⟩; exact ⟨h1, h2, h3, h4, h5⟩
def IsMin (ns : List Nd) (n : Int) (x s : Nat) (v : Int) : Prop :=
  (v = -1 ∧ ∀ ys, Chain ns n ys x → ¬ ys.length + 1 ≤ s) ∨
  (0 ≤ v ∧ (∃ ys, Chain ns n ys x ∧ ys.length + 1 ≤ s ∧ wN ns ys = v) ∧ ∀ ys, Chain ns n ys x → ys.length + 1 ≤ s → v ≤ wN ns ys)
theorem IsMin.eq {ns : List Nd} {n : Int} {x s : Nat} {v u : Int} (h : IsMin ns n x s v) (k : IsMin ns n x s u) : v = u := by
  rcases h with ⟨e, h⟩ | ⟨h0, ⟨ys, h1, h2, h3⟩, h4⟩
  · rcases k with ⟨e', _⟩ | ⟨_, ⟨ys, k1, k2, _⟩, _⟩
    · omega
    · exact absurd k2 (h ys k1)
  · rcases k with ⟨_, k⟩ | ⟨_, ⟨zs, k1, k2, k3⟩, k4⟩
    · exact absurd h2 (k ys h1)
    · have := h4 zs k1 k2
      have := k4 ys h1 h2
      omega
theorem leastTo_min {ns : List Nd} {f : Int → Int} {n x : Int} (hf : ∀ y, -1 ≤ f y) (K : Nat) :
    (zS ns f n x K = -1 ∧ ∀ y, y < K → qL (qV ns y) n = true → dB ns x f y = -1) ∨
    (0 ≤ zS ns f n x K ∧ (∃ y, y < K ∧ qL (qV ns y) n = true ∧ dB ns x f y = zS ns f n x K) ∧ ∀ y, y < K → qL (qV ns y) n = true → 0 ≤ dB ns x f y → zS ns f n x K ≤ dB ns x f y) := by
  induction K with
  | zero => exact .inl ⟨rfl, fun y hy => absurd hy (Nat.not_lt_zero y)⟩
  | succ K ih =>
    cases ht : qL (qV ns K) n with
    | false =>
      rw [fW ht]
      rcases ih with ⟨h1, h2⟩ | ⟨h1, ⟨y, h2, h3⟩, h4⟩
      · refine .inl ⟨h1, fun y hy hyt => ?_⟩
        by_cases e : y = K
        · subst e; rw [ht] at hyt; cases hyt
        · exact h2 y (by omega) hyt
      · refine .inr ⟨h1, ⟨y, by omega, h3⟩, fun y hy hyt => ?_⟩
        by_cases e : y = K
        · subst e; rw [ht] at hyt; cases hyt
        · exact h4 y (by omega) hyt
    | true =>
      rw [fT ht]
      have hd := dB_lo (ns := ns) (x := x) (k := K) hf
      rcases ih with ⟨h1, h2⟩ | ⟨h1, ⟨y, h2, h3, h5⟩, h4⟩
      · rw [h1]
        by_cases e0 : 0 ≤ dB ns x f K
        · rw [stepB_yes e0 (.inl (by omega))]
          refine .inr ⟨e0, ⟨K, by omega, ht, rfl⟩, fun y hy hyt hy0 => ?_⟩
          by_cases e : y = K
          · subst e; exact Int.le_refl _
          · have := h2 y (by omega) hyt; omega
        · rw [stepB_neg (by omega)]
          refine .inl ⟨rfl, fun y hy hyt => ?_⟩
          by_cases e : y = K
          · subst e; omega
          · exact h2 y (by omega) hyt
      · by_cases e0 : 0 ≤ dB ns x f K ∧ dB ns x f K < zS ns f n x K
        · rw [stepB_yes e0.1 (.inr e0.2)]
          refine .inr ⟨e0.1, ⟨K, by omega, ht, rfl⟩, fun y hy hyt hy0 => ?_⟩
          by_cases e : y = K
          · subst e; exact Int.le_refl _
          · have := h4 y (by omega) hyt hy0; omega
        · have es : mL (zS ns f n x K) (dB ns x f K) = zS ns f n x K := by unfold mL; rw [if_neg (by omega)]
          rw [es]
          refine .inr ⟨h1, ⟨y, by omega, h3, h5⟩, fun y hy hyt hy0 => ?_⟩
          by_cases e : y = K
          · subst e; omega
          · exact h4 y (by omega) hyt hy0
theorem dB_eq {ns : List Nd} {x y : Nat} {f : Int → Int} (h : y ≠ x) (h0 : 0 ≤ f y) : dB ns x f y = f y + uV ns y := by
  have hne : ¬ (y : Int) = x := by omega
  unfold uV
  by_cases h4 : (qV ns y).kind = 4
  · rw [dB_back hne h0 h4, if_pos h4]
  · rw [dB_not hne (fun h => h4 h.2), if_neg h4]; omega
theorem dB_neg {ns : List Nd} {x y : Nat} {f : Int → Int} (h : y ≠ x) (h0 : f y = -1) : dB ns x f y = -1 := by
  rw [dB_not (by omega) (fun h => by omega), h0]
theorem uW {ns : List Nd} {x : Nat} (hx : x < ns.length) (s : Nat) : ∀ n : Int, IsMin ns n x s (yS ns x s n) := by
  induction s with
  | zero => intro n; exact .inl ⟨rfl, fun ys _ h => by omega⟩
  | succ s ih =>
    intro n
    have hf := leastB_lo ns x s
    have hf1 : ∀ y : Nat, yS ns x s y = -1 ∨ 0 ≤ yS ns x s y := fun y => by have := hf y; omega
    unfold yS
    rcases leastTo_min (ns := ns) (n := n) (x := (x : Int)) hf ns.length with ⟨h1, h2⟩ | ⟨h1, ⟨y, h2, h3, h5⟩, h4⟩
    · refine .inl ⟨h1, ?_⟩
      intro ys hc hl
      cases ys with
      | nil => have := h2 x hx hc; rw [dB_x rfl] at this; omega
      | cons y ys =>
        obtain ⟨c1, c2, c3⟩ := hc
        have hd := h2 y c1 c2
        by_cases e : y = x
        · subst e; rw [dB_x rfl] at hd; omega
        · rcases hf1 y with h | h
          · rcases ih (y : Int) with ⟨_, h6⟩ | ⟨h6, _⟩
            · simp at hl; exact h6 ys c3 (by omega)
            · omega
          · rw [dB_eq e h] at hd; have := xR ns y; omega
    · refine .inr ⟨h1, ?_, ?_⟩
      · by_cases e : y = x
        · subst e
          rw [dB_x rfl] at h5
          exact ⟨[], h3, by simp, h5⟩
        · rcases hf1 y with h | h
          · rw [dB_neg e h] at h5; omega
          · rw [dB_eq e h] at h5
            rcases ih (y : Int) with ⟨h6, _⟩ | ⟨_, ⟨ys, g1, g2, g3⟩, _⟩
            · omega
            · exact ⟨y :: ys, ⟨h2, h3, g1⟩, by simp; omega, by unfold wN; omega⟩
      · intro ys hc hl
        cases ys with
        | nil => have := h4 x hx hc (by rw [dB_x rfl]; omega); rw [dB_x rfl] at this; exact this
        | cons z ys =>
          obtain ⟨c1, c2, c3⟩ := hc
          have hcz := uB ns (z :: ys)
          by_cases e : z = x
          · subst e
            have := h4 z c1 c2 (by rw [dB_x rfl]; omega)
            rw [dB_x rfl] at this
            omega
          · rcases ih (z : Int) with ⟨_, h6⟩ | ⟨h6, _, g4⟩
            · simp at hl; exact absurd (by omega) (h6 ys c3)
            · have g := g4 ys c3 (by simp at hl; omega)
              have hb := xR ns z
              have := h4 z c1 c2 (by rw [dB_eq e h6]; omega)
              rw [dB_eq e h6] at this
              unfold wN
              omega
theorem oneTo_nth (ns : List Nd) (n : Int) : ∀ k x, x < k → kC (xZ ns n k) x = one1 ns n x := by
  intro k
  induction k with
  | zero => intro x hx; omega
  | succ k ih =>
    intro x hx
    rw [jL (by rw [zM]; exact hx)]
    unfold xZ
    by_cases e : x < k
    · rw [List.getElem_append_left (by rw [zM]; exact e), ← jL (by rw [zM]; exact e)]
      exact ih x e
    · have hx' : x = (xZ ns n k).length := by rw [zM]; omega
      have hk' : x = k := by omega
      subst hk'
      rw [List.getElem_append_right (by rw [zM]; exact Nat.le_refl _)]
      simp
theorem moreL_nth (ns : List Nd) (fr : List Int) : ∀ k x, x < k → kC (pN ns fr k) x = zR ns fr x (kC fr x) fr.length := by
  intro k
  induction k with
  | zero => intro x hx; omega
  | succ k ih =>
    intro x hx
    rw [jL (by rw [zB]; exact hx)]
    unfold pN
    by_cases e : x < k
    · rw [List.getElem_append_left (by rw [zB]; exact e), ← jL (by rw [zB]; exact e)]
      exact ih x e
    · have hk' : x = k := by omega
      subst hk'
      rw [List.getElem_append_right (by rw [zB]; exact Nat.le_refl _)]
      simp
theorem toY_eq (ns : List Nd) (fr : List Int) (y : Nat) : toY ns fr y = kC fr y + uV ns y := by
  unfold toY uV; split <;> omega
theorem moreTo_min {ns : List Nd} {fr : List Int} {x : Nat} {d0 : Int} (hd : -1 ≤ d0) (hf : ∀ y, y < fr.length → -1 ≤ kC fr y) : ∀ K, K ≤ fr.length →
    (zR ns fr x d0 K = -1 ∧ d0 = -1 ∧ ∀ y, y < K → qL (qV ns x) y = true → kC fr y = -1) ∨
    (0 ≤ zR ns fr x d0 K ∧ (zR ns fr x d0 K = d0 ∨ ∃ y, y < K ∧ 0 ≤ kC fr y ∧ qL (qV ns x) y = true ∧ toY ns fr y = zR ns fr x d0 K) ∧ (0 ≤ d0 → zR ns fr x d0 K ≤ d0) ∧
      ∀ y, y < K → 0 ≤ kC fr y → qL (qV ns x) y = true → zR ns fr x d0 K ≤ toY ns fr y) := by
  intro K hK
  induction K with
  | zero =>
    by_cases e : 0 ≤ d0
    · exact .inr ⟨e, .inl rfl, fun _ => Int.le_refl _, fun y hy => absurd hy (Nat.not_lt_zero y)⟩
    · exact .inl ⟨by unfold zR; omega, by omega, fun y hy => absurd hy (Nat.not_lt_zero y)⟩
  | succ K ih =>
    have ih := ih (by omega)
    have hK0 := hf K (by omega)
    by_cases hs : kC fr K = -1 ∨ qL (qV ns x) K = false
    · rw [bQ hs]
      rcases ih with ⟨h1, h2, h3⟩ | ⟨h1, h2, h3, h4⟩
      · refine .inl ⟨h1, h2, fun y hy hyt => ?_⟩
        by_cases e : y = K
        · subst e
          rcases hs with hs | hs
          · exact hs
          · rw [hs] at hyt; cases hyt
        · exact h3 y (by omega) hyt
      · refine .inr ⟨h1, ?_, h3, fun y hy hy0 hyt => ?_⟩
        · rcases h2 with h2 | ⟨y, h2, h5⟩
          · exact .inl h2
          · exact .inr ⟨y, by omega, h5⟩
        · by_cases e : y = K
          · subst e
            rcases hs with hs | hs
            · omega
            · rw [hs] at hyt; cases hyt
          · exact h4 y (by omega) hy0 hyt
    · have hs1 : kC fr K ≠ -1 := fun h => hs (.inl h)
      have hs2 : qL (qV ns x) K = true := by
        cases h : qL (qV ns x) K with
        | true => rfl
        | false => exact absurd (.inr h) hs
      rw [moreTo_go hs1 hs2]
      have htY := toY_eq ns fr K
      have hb := xR ns K
      rcases ih with ⟨h1, h2, h3⟩ | ⟨h1, h2, h3, h4⟩
      · rw [uX (.inl h1)]
        refine .inr ⟨by omega, .inr ⟨K, by omega, by omega, hs2, rfl⟩, fun h => by omega, fun y hy hy0 hyt => ?_⟩
        by_cases e : y = K
        · subst e; exact Int.le_refl _
        · have := h3 y (by omega) hyt; omega
      · by_cases e : toY ns fr K < zR ns fr x d0 K
        · rw [uX (.inr e)]
          clear h2
          refine .inr ⟨by omega, .inr ⟨K, by omega, by omega, hs2, rfl⟩, fun h => by have := h3 h; omega, fun y hy hy0 hyt => ?_⟩
          by_cases ey : y = K
          · subst ey; exact Int.le_refl _
          · have := h4 y (by omega) hy0 hyt; omega
        · rw [dG (by clear h2; omega) (by clear h2; omega)]
          refine .inr ⟨h1, ?_, h3, fun y hy hy0 hyt => ?_⟩
          · rcases h2 with h2 | ⟨y, h2, h5⟩
            · exact .inl h2
            · exact .inr ⟨y, by omega, h5⟩
          · by_cases ey : y = K
            · subst ey; omega
            · exact h4 y (by omega) hy0 hyt
theorem distL_min {ns : List Nd} {n : Int} (s : Nat) : ∀ x, x < ns.length → IsMin ns n x (s + 1) (kC (xN ns n s) x) := by
  induction s with
  | zero =>
    intro x hx
    unfold xN
    rw [oneTo_nth ns n _ x hx]
    unfold one1
    cases ht : qL (qV ns x) n with
    | true => exact .inr ⟨by simp, ⟨[], ht, by simp, by simp [wN]⟩, fun ys _ _ => by simp; exact uB ns ys⟩
    | false =>
      refine .inl ⟨by simp, fun ys hc hl => ?_⟩
      cases ys with
      | nil => unfold Chain at hc; rw [ht] at hc; cases hc
      | cons y ys => simp at hl
  | succ s ih =>
    intro x hx
    unfold xN
    have hlen := pX ns n s
    have hlow := distL_low ns n s
    rw [hlen, moreL_nth ns _ _ x hx]
    have hx1 := hlow x (by omega)
    rcases moreTo_min (ns := ns) (fr := xN ns n s) (x := x) (d0 := kC (xN ns n s) x) hx1.1 (fun y hy => (hlow y hy).1) _ (Nat.le_refl _) with ⟨h1, h2, h3⟩ | ⟨h1, h2, h3, h4⟩
    · refine .inl ⟨h1, fun ys hc hl => ?_⟩
      rcases ih x hx with ⟨_, g⟩ | ⟨g, _⟩
      · by_cases e : ys.length + 1 ≤ s + 1
        · exact g ys hc e
        · rcases List.eq_nil_or_concat ys with rfl | ⟨zs, y, rfl⟩
          · simp at e
          · rw [List.concat_eq_append] at hc hl
            obtain ⟨c1, c2, c3⟩ := chain_snoc.1 hc
            have := h3 y (by omega) c3
            rcases ih y c2 with ⟨_, k⟩ | ⟨k, _⟩
            · simp at hl; exact k zs c1 (by omega)
            · omega
      · omega
    · refine .inr ⟨h1, ?_, fun ys hc hl => ?_⟩
      · rcases h2 with h2 | ⟨y, g1, g2, g3, g4⟩
        · rcases ih x hx with ⟨g, _⟩ | ⟨_, ⟨ys, g1, g2, g3⟩, _⟩
          · omega
          · exact ⟨ys, g1, by omega, by omega⟩
        · rcases ih y (by omega) with ⟨k, _⟩ | ⟨_, ⟨zs, k1, k2, k3⟩, _⟩
          · omega
          · refine ⟨zs ++ [y], chain_snoc.2 ⟨k1, by omega, g3⟩, by simp; omega, ?_⟩
            rw [cost_snoc, k3, ← g4, toY_eq]
      · by_cases e : ys.length + 1 ≤ s + 1
        · rcases ih x hx with ⟨_, g⟩ | ⟨g0, _, g⟩
          · exact absurd e (g ys hc)
          · have := g ys hc e
            have := h3 g0
            omega
        · rcases List.eq_nil_or_concat ys with rfl | ⟨zs, y, rfl⟩
          · simp at e
          · rw [List.concat_eq_append] at hc hl ⊢
            obtain ⟨c1, c2, c3⟩ := chain_snoc.1 hc
            rcases ih y c2 with ⟨_, k⟩ | ⟨k0, _, k⟩
            · simp at hl; exact absurd (by omega) (k zs c1)
            · have := k zs c1 (by simp at hl; omega)
              have g := h4 y (by omega) k0 c3
              rw [toY_eq] at g
              rw [cost_snoc]
              omega
def mX (ns : List Nd) : Nat → Nat → Int := fun n x => kC (xN ns (n : Int) (ns.length - 1)) x
theorem distD_far {ns : List Nd} {n x : Nat} (h1 : 1 ≤ ns.length) (hx : x < ns.length) : mX ns n x = zQ ns n x := by
  have a := distL_min (ns := ns) (n := (n : Int)) (ns.length - 1) x hx
  have b := uW hx ns.length (n : Int)
  rw [show ns.length - 1 + 1 = ns.length by omega] at a
  exact a.eq b
theorem distRow (ns : List Nd) (n : Nat) : (xN ns (n : Int) (ns.length - 1)).map (Value.int .i64) = rB ns.length (mX ns n) := by
  apply List.ext_getElem?
  intro j
  have hl := pX ns (n : Int) (ns.length - 1)
  unfold rB mX
  by_cases hj : j < ns.length
  · simp [hj, kC, List.getD, List.getElem?_eq_getElem (show j < (xN ns (n : Int) (ns.length - 1)).length by omega)]
  · simp [hj, List.getElem?_eq_none (show (xN ns (n : Int) (ns.length - 1)).length ≤ j by omega)]
theorem TabB.setD {base : Nat} {w : World} {v : Value} {n m rb k : Nat} {f : Nat → Nat → Int} {arr : Array Value} {fr : Nat × Nat} {u : Value} (h : TabB base w v n m f) (hr : w.heap[rb]? = some (.cells arr 101 fr)) : TabB base (w.setCell ⟨rb, k, none⟩ u) v n m f :=
  h.map fun ty _ _ _ ht h => kJ hr h (by rcases ht with rfl | rfl <;> decide)
set_option maxRecDepth 100000 in
set_option maxHeartbeats 4000000 in
theorem pdistOf_any (ns : List Nd) (ga : Option Addr) (gc : Nat) (r : Int) (w : World) (hn : NodesAt w ga ns) (h1 : 1 ≤ ns.length) (h8 : ns.length ≤ 8) :
    Calls Try.prog 107 #[.agg #[.slice ga ns.length gc, .int .i64 r]] w fun e w' => ∃ v, e = .returned (.agg #[v]) ∧ TabB w.heap.size w' v ns.length ns.length (mX ns) ∧ Bw w w' := by
  go_enter Try.func107, Try.ntmps107
  go_wp2_with fail
  obtain ⟨w0, hw0⟩ : ∃ w0, ((w.alloc (.cells #[.slice ga ns.length gc, .int .i64 r] 24)).alloc (.cells #[.slice none 0 0] 101)).alloc (.cells #[.slice none 0 0] 101) = w0 := ⟨_, rfl⟩
  rw [hw0]
  obtain ⟨hz0, hg0, hd1, hd2, hB0⟩ : w0.heap.size = w.heap.size + 1 + 1 + 1 ∧ w0.heap[w.heap.size]? = some (.cells #[.slice ga ns.length gc, .int .i64 r] 24 (0, 0)) ∧ w0.heap[w.heap.size + 1]? = some (.cells #[.slice none 0 0] 101 (0, 0)) ∧ w0.heap[w.heap.size + 1 + 1]? = some (.cells #[.slice none 0 0] 101 (0, 0)) ∧ Bw w w0 := by
    rw [← hw0]
    refine ⟨by simp, ?_, ?_, ?_, (by repeat first|exact br _|assumption|apply bd|apply bn|apply ba|refine bt ?_ (by assumption))⟩
    · exact (Below.block (show Bw (w.alloc (.cells #[.slice ga ns.length gc, .int .i64 r] 24)) _ from (by repeat first|exact br _|assumption|apply bd|apply bn|apply ba|refine bt ?_ (by assumption))) _ (by simp)).trans (heap_alloc_new w _)
    · have := (Below.block (show Bw ((w.alloc (.cells #[.slice ga ns.length gc, .int .i64 r] 24)).alloc (.cells #[.slice none 0 0] 101)) (((w.alloc (.cells #[.slice ga ns.length gc, .int .i64 r] 24)).alloc (.cells #[.slice none 0 0] 101)).alloc (.cells #[.slice none 0 0] 101)) from (by repeat first|exact br _|assumption|apply bd|apply bn|apply ba|refine bt ?_ (by assumption))) (w.heap.size + 1) (by simp)).trans (show _ = some (.cells #[.slice none 0 0] 101 (0, 0)) from by rw [show w.heap.size + 1 = (w.alloc (.cells #[.slice ga ns.length gc, .int .i64 r] 24)).heap.size by simp]; exact heap_alloc_new _ _)
      exact this
    · rw [show w.heap.size + 1 + 1 = ((w.alloc (.cells #[.slice ga ns.length gc, .int .i64 r] 24)).alloc (.cells #[.slice none 0 0] 101)).heap.size by simp]; exact heap_alloc_new _ _
  clear hw0
  obtain ⟨gb, hgb⟩ : ∃ gb, w.heap.size = gb := ⟨_, rfl⟩
  rw [hgb] at hg0 hd1 hd2 hz0
  rw [hgb]
  obtain ⟨db, hdb⟩ : ∃ db, gb + 1 = db := ⟨_, rfl⟩
  obtain ⟨ab, hab⟩ : ∃ ab, gb + 1 + 1 = ab := ⟨_, rfl⟩
  rw [hab] at hd2
  rw [hdb] at hd1
  simp only [hab]
  simp only [hdb]
  have hq1 : w.heap.size ≤ gb ∧ w.heap.size ≤ db ∧ w.heap.size ≤ ab ∧ db ≠ ab := by omega
  clear hgb hdb hab hz0
  go_loopw [9] (fun i wr => ∃ (k : Nat) (v : Value), k ≤ ns.length ∧ i = .int .i64 k ∧ wr.heap[gb]? = some (.cells #[.slice ga ns.length gc, .int .i64 r] 24 (0, 0)) ∧ wr.heap[db]? = some (.cells #[.slice none 0 0] 101 (0, 0)) ∧ wr.heap[ab]? = some (.cells #[v] 101 (0, 0)) ∧ TabB w.heap.size wr v k ns.length (mX ns) ∧ Bw w wr) (fun i _ => ns.length - (intOf i).toNat)
  case atStart => exact ⟨0, _, Nat.zero_le _, rfl, hg0, hd1, hd2, TabB.nil _ _ _ _, hB0⟩
  case round =>
    clear hg0 hd1 hd2 hB0
    obtain ⟨k, v, hk, rfl, hg, hd, ha, hT, hB⟩ := hrel
    rename World => wr
    have hv : ∃ va vc, v = .slice va k vc := by
      obtain ⟨vs, h, _⟩ := hT
      exact ⟨_, _, qW h⟩
    obtain ⟨va, vc, rfl⟩ := hv
    have g0 := qQ (o := 0) hg rfl
    have g1 := qQ (o := 1) hg rfl
    have gl := (Array.getElem?_eq_some_iff.1 hg).1
    by_cases hlt : k < ns.length
    · obtain ⟨vs, ht1, ht2⟩ := hT
      have Hg := qJ hg
      have Hd := qJ hd
      have Ha := qJ ha
      have Ht1 := qJ ht1
      have Ht2 := qJ ht2
      clear hg hd ha ht1 ht2
      go_wp2_with fail
      refine (distFrom_any ns _ _ _ _ _ (hn.below hB) h1 h8).mono ?_
      rintro e w1 ⟨u, rfl, hu, hb1⟩
      obtain ⟨ua, uc, hue, _, _⟩ := hu.form
      subst hue
      have Hu := qJ (show w1.ownsRow w.heap.size 3 1 _ ns.length (rB ns.length (mX ns k)) from by rw [← distRow]; have := kU hu (Below.size hB); rw [pX] at this; exact this)
      clear hu
      have ha1 := (Below.block hb1 _ (Array.getElem?_eq_some_iff.1 (qK Ha)).1).trans (qK Ha)
      have a0 := qQ (o := 0) ha1 rfl
      have al := (Array.getElem?_eq_some_iff.1 ha1).1
      have Ha1 := qJ ha1
      clear ha1
      rw [pX]
      have hB1 := hB.trans hb1
      go_wp2_with (at_builtin; refine appL _ rfl _ _ _ 26 rfl _ 1 24 Try.infoIntsR Try.underlying54 rfl (by decide) w.heap.size _ k vs rfl (qP (qK Ht1) fun g hg => Below.block (show Bw wr _ from (by repeat first|exact br _|assumption|apply bd|apply bn|apply ba|refine bt ?_ (by assumption))) g hg) _ _ [.slice ua ns.length uc] rfl rfl (cells1 (qQ (qN _ _ (by simp)) rfl)) (by simp [Value.oneCell']) (by omega) (by omega) (Bw.size (show Bw w _ from (by repeat first|exact br _|assumption|apply bd|apply bn|apply ba|refine bt ?_ (by assumption)))) ?_; intro g' cap w8 ho8 hg8 hl8; have ha8 := qJ (kZ (qP (qK Ht1) fun g hg => Below.block (show Bw wr _ from (by repeat first|exact br _|assumption|apply bd|apply bn|apply ba|refine bt ?_ (by assumption))) g hg) hg8 ((Below.block (show Bw w1 _ from (by repeat first|exact br _|assumption|apply bd|apply bn|apply ba|refine bt ?_ (by assumption))) _ (Array.getElem?_eq_some_iff.1 (qK Ha1)).1).trans (qK Ha1)) (.inl (by decide))); have q0 := qQ (o := 0) (qK ha8) rfl; have q0f := qZ (o := 0) (qK ha8); have q0l := (Array.getElem?_eq_some_iff.1 (qK ha8)).1)
      go_roundw
      case rel =>
        obtain ⟨wA, hwA⟩ : ∃ wA, w1.alloc (.cells #[.slice ua ns.length uc] 26) = wA := ⟨_, rfl⟩
        have hbA : Bw w1 wA := by rw [← hwA]; exact (by repeat first|exact br _|assumption|apply bd|apply bn|apply ba|refine bt ?_ (by assumption))
        rw [hwA] at hg8
        have hwrA : Bw wr wA := hb1.trans hbA
        have ht1A := qP (qK Ht1) fun g hg => Below.block hwrA g hg
        have ht2A : ∀ i, i < k → ∃ u, vs[i]? = some u ∧ wA.ownsRow w.heap.size 3 1 u ns.length (rB ns.length (mX ns i)) := fun i hi => by
          obtain ⟨u, e, h3⟩ := (qK Ht2) i hi
          exact ⟨u, e, qP h3 fun g hg => Below.block hwrA g hg⟩
        have hg8' := kZ ht1A hg8 ((Below.block hwrA _ (Array.getElem?_eq_some_iff.1 (qK Hg)).1).trans (qK Hg)) (.inl (by decide))
        have hd8 := kZ ht1A hg8 ((Below.block hwrA _ (Array.getElem?_eq_some_iff.1 (qK Hd)).1).trans (qK Hd)) (.inl (by decide))
        have hT8 := TabB.add (f := mX ns) ht1A ht2A (qP (qK Hu) fun g hg => Below.block hbA g hg) ho8 hg8
        refine ⟨k + 1, _, by omega, by go_num, ?_, ?_, ?_, hT8.setD (qK ha8), ?_⟩
        · exact (Below.heap_setCell w8 ⟨ab, 0, none⟩ _ gb (fun e => by simp only at e; rw [e, qK ha8] at hg8'; simp at hg8')).trans hg8'
        · exact (Below.heap_setCell w8 ⟨ab, 0, none⟩ _ db (fun e => hq1.2.2.2 e)).trans hd8
        · exact (qY (qK ha8)).trans rfl
        · exact Chg.toBw (S := fun b => b = ab) (tD ht1A hg8 (hB1.trans hbA) (Nat.le_refl _)) (qC _ _ _ _) (fun x hx => hx ▸ hq1.2.2.1)
      case measure => simp [intOf]; omega
    · have hkk : k = ns.length := by omega
      subst hkk
      have d0 := qQ (o := 0) hd rfl
      have df := qZ (o := 0) hd
      have dl := (Array.getElem?_eq_some_iff.1 hd).1
      have a0 := qQ (o := 0) ha rfl
      have al := (Array.getElem?_eq_some_iff.1 ha).1
      have hTs := hT.setD (k := 0) (u := .slice va ns.length vc) hd
      have hds := qQ (o := 0) (qY (k := 0) (v := .slice va ns.length vc) hd) rfl
      clear hT hg hd ha
      go_wp2_with fail
      refine bodyPost_ret (v := .agg #[.slice va ns.length vc]) (by simp [results, Try.results107, go_sem, hds]) rfl ⟨_, rfl, hTs, ?_⟩
      exact Chg.toBw (S := fun b => b = db) hB (qC _ _ _ _) (fun x hx => hx ▸ hq1.2.1)
def jN (ns : List Nd) (D : Nat → Nat → Int) (n : Nat) (out : Bool) (s x : Nat) : Int :=
  if !out && (n == x) then s else if decide (D n x < 0) then -1 else if !out && ((qV ns n).kind == 4) then s + (D n x + 1) else s + D n x
end Go.Proofs.Ytfemleimkbjehaa
