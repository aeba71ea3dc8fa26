import Derived.Test.YtfemleimkbjehaaGreatJ0
set_option maxRecDepth 1000000
set_option maxHeartbeats 40000000
set_option linter.unusedVariables false
set_option linter.unusedSimpArgs false
namespace Go.Proofs.YtfemleimkbjehaaGreat
open Go.RowKit
def lenOf : Value → Nat
  | .slice _ n _ => n
  | _ => 0
theorem Own.len {W w : World} {v : Value} {xs : List Int} (h : Own W w v xs) : lenOf v = xs.length := by
  obtain ⟨ad, cap, rfl, _⟩ := h.form; rfl
def zL (ns : List Nd) (ord : List Int) (n : Int) : Nat → Int
  | 0 => n
  | k + 1 => uQ ns ord (zL ns ord n k)
def cycGo (ns : List Nd) (ord : List Int) (s : Int) : Nat → List Int → Int → List Int
  | 0, l, _ => l
  | f + 1, l, n => if n == s then l else cycGo ns ord s f (n :: l) (uQ ns ord n)
def cycS (ns : List Nd) (ord : List Int) : Int := zL ns ord (yQ ord 0 ns.length) ns.length
def cycB (ns : List Nd) (ord : List Int) : List Int := cycGo ns ord (cycS ns ord) (ns.length - 1) [cycS ns ord] (uQ ns ord (cycS ns ord))
theorem cycGo_stop {ns : List Nd} {ord : List Int} {s : Int} {f : Nat} {l : List Int} {n : Int} (h : (n == s) = true) : cycGo ns ord s f l n = l := by
  cases f with
  | zero => rfl
  | succ f => simp [cycGo, h]
theorem cycGo_on {ns : List Nd} {ord : List Int} {s : Int} {f : Nat} {l : List Int} {n : Int} (h : (n == s) = false) : cycGo ns ord s (f + 1) l n = cycGo ns ord s f (n :: l) (uQ ns ord n) := by
  simp [cycGo, h]
theorem cycle_any (ns : List Nd) (ga : Option Addr) (gc : Nat) (r : Int) (ord : List Int) (ad : Option Addr) (cap : Nat) (w : World) (hn : NodesAt w ga ns) (hx : IntsAt w ad ord) (hl : ord.length ≤ maxLen) (hg1 : 1 ≤ ns.length) (hg : ns.length ≤ 8) :
    Calls Tryz.prog 79 #[.agg #[.slice ga ns.length gc, .int .i64 r], .slice ad ord.length cap] w fun e w' => ∃ v, e = .returned v ∧ Own w w' v (cycB ns ord) ∧ Bw w w' := by
  have hgl : ns.length ≤ maxLen := by unfold maxLen; omega
  go_enter Tryz.func79, Tryz.ntmps79
  go_wp2_with (go_at_call 107; refine (first_any ns.length ord _ _ _ _ _ _ (hx.below (by repeat first|exact br _|assumption|apply bd|apply bn|apply ba|refine bt ?_ (by assumption))) hl hgl).mono ?_; rintro e w' ⟨rfl, hbl⟩)
  go_loopw [5, 6] (fun v i wr => ∃ k : Nat, k ≤ ns.length ∧ i = .int .i64 k ∧ v = .int .i64 (zL ns ord (yQ ord 0 ns.length) k) ∧
      Bw (w.alloc (.cells #[.slice ga ns.length gc, .int .i64 r] 24)) wr)
    (fun _ i _ => ns.length - (intOf i).toNat)
  case atStart => exact ⟨0, Nat.zero_le _, rfl, rfl, (by repeat first|exact br _|assumption|apply bd|apply bn|apply ba|refine bt ?_ (by assumption))⟩
  case round =>
    clear hbl
    obtain ⟨k, hk, rfl, rfl, hB⟩ := hrel
    obtain ⟨gcc, gff⟩ := qS hB
    have gz : w.heap.size < wr.heap.size := by have := hB.size; simp at this; omega
    by_cases hlt : k < ns.length
    · go_wp2_with (go_at_call 108; refine (ahead_any ns _ _ _ ord _ _ _ _ (hn.below (by repeat first|exact br _|assumption|apply bd|apply bn|apply ba|refine bt ?_ (by assumption))) (hx.below (by repeat first|exact br _|assumption|apply bd|apply bn|apply ba|refine bt ?_ (by assumption))) hl hgl).mono ?_; rintro e w' ⟨rfl, hbl⟩)
      go_roundw
      case rel => exact ⟨k + 1, by omega, by go_num, rfl, (by repeat first|exact br _|assumption|apply bd|apply bn|apply ba|refine bt ?_ (by assumption))⟩
      case measure => simp [intOf]; omega
    · have hkk : k = ns.length := by omega
      subst hkk
      have hs : Hid (zL ns ord (yQ ord 0 ns.length) ns.length = cycS ns ord) := rfl
      rw [qK hs]
      clear hs
      go_wp2_with (go_at_call 108; refine (ahead_any ns _ _ _ ord _ _ _ _ (hn.below (by repeat first|exact br _|assumption|apply bd|apply bn|apply ba|refine bt ?_ (by assumption))) (hx.below (by repeat first|exact br _|assumption|apply bd|apply bn|apply ba|refine bt ?_ (by assumption))) hl hgl).mono ?_; rintro e w' ⟨rfl, hbl⟩)
      go_loopw [7, 8] (fun v i wi => ∃ (l : List Int) (n : Int) (f : Nat), i = .int .i64 n ∧ Own (w.alloc (.cells #[.slice ga ns.length gc, .int .i64 r] 24)) wi v l ∧ l.length + f = ns.length ∧ 0 < l.length ∧ cycGo ns ord (cycS ns ord) f l n = cycB ns ord ∧ Bw (w.alloc (.cells #[.slice ga ns.length gc, .int .i64 r] 24)) wi)
        (fun v _ _ => ns.length - lenOf v)
      case atStart => exact ⟨[cycS ns ord], _, ns.length - 1, rfl, (own_one _ hB).bw (by repeat first|exact br _|assumption|apply bd|apply bn|apply ba|refine bt ?_ (by assumption)), by simp; omega, by simp, rfl, (by repeat first|exact br _|assumption|apply bd|apply bn|apply ba|refine bt ?_ (by assumption))⟩
      case round =>
        clear hB gcc gff gz hbl
        obtain ⟨l, n, f, rfl, hown, hlf, hl0, hcy, hB⟩ := hrel
        have Hcy := qJ hcy
        clear hcy
        obtain ⟨gcc, gff⟩ := qS hB
        have gz : w.heap.size < wr.heap.size := by have := hB.size; simp at this; omega
        obtain ⟨la, lc, rfl, hlx, hml⟩ := hown.form
        cases hns : (n == cycS ns ord) with
        | true =>
          have Hns := qJ hns
          have hns' : (n != cycS ns ord) = false := by simp [bne, hns]
          clear hns
          go_wp2
          go_ret
          exact ⟨_, rfl, by rw [← qK Hcy, cycGo_stop (qK Hns)]; exact hown.weaken (by repeat first|exact br _|assumption|apply bd|apply bn|apply ba|refine bt ?_ (by assumption)), (by repeat first|exact br _|assumption|apply bd|apply bn|apply ba|refine bt ?_ (by assumption))⟩
        | false =>
          have Hns := qJ hns
          have hns' : (n != cycS ns ord) = true := by simp [bne, hns]
          clear hns
          by_cases hlt : l.length < ns.length
          · obtain ⟨f', rfl⟩ : ∃ f', f = f' + 1 := ⟨f - 1, by omega⟩
            go_wp2_with (first | (at_builtin; refine appN _ rfl _ _ rfl _ _ [n] rfl (own_one n hB) _ _ l rfl (hlx.below (by repeat first|exact br _|assumption|apply bd|apply bn|apply ba|refine bt ?_ (by assumption))) hl0 (by simp; omega) (by repeat first|exact br _|assumption|apply bd|apply bn|apply ba|refine bt ?_ (by assumption)) ?_; intro v' w1 hown1 hB1 hgr1; obtain ⟨gc1, gf1⟩ := qS hB1) | (go_at_call 108; refine (ahead_any ns _ _ _ ord _ _ _ _ (hn.below (by repeat first|exact br _|assumption|apply bd|apply bn|apply ba|refine bt ?_ (by assumption))) (hx.below (by repeat first|exact br _|assumption|apply bd|apply bn|apply ba|refine bt ?_ (by assumption))) hl hgl).mono ?_; rintro e w' ⟨rfl, hbl⟩))
            go_roundw
            case rel => exact ⟨n :: l, uQ ns ord n, f', rfl, hown1.bw (by repeat first|exact br _|assumption|apply bd|apply bn|apply ba|refine bt ?_ (by assumption)), by simp; omega, by simp, by rw [← qK Hcy, cycGo_on (qK Hns)], (by repeat first|exact br _|assumption|apply bd|apply bn|apply ba|refine bt ?_ (by assumption))⟩
            case measure => rw [hown1.len]; simp [lenOf]; omega
          · have hf0 : f = 0 := by omega
            subst hf0
            go_wp2
            go_ret
            exact ⟨_, rfl, by rw [← qK Hcy]; exact hown.weaken (by repeat first|exact br _|assumption|apply bd|apply bn|apply ba|refine bt ?_ (by assumption)), (by repeat first|exact br _|assumption|apply bd|apply bn|apply ba|refine bt ?_ (by assumption))⟩
def zG (ns : List Nd) (r : Int) : Int := if wfB ns r then (if (kW ns).length < ns.length then 2 else 0) else 1
def CheckL (w w' : World) (v : Value) (ns : List Nd) (r : Int) : Prop :=
  if zG ns r = 2 then Own w w' v (cycB ns (kW ns)) else v = .slice none 0 0
theorem wfB_len {ns : List Nd} {r : Int} (h : wfB ns r = true) : 1 ≤ ns.length ∧ ns.length ≤ 8 := by
  simp [wfB] at h; omega
theorem gcheck_any (ns : List Nd) (ga : Option Addr) (gc : Nat) (r : Int) (w : World) (hn : NodesAt w ga ns) (hgl : ns.length ≤ maxLen) :
    Calls Tryz.prog 49 #[.agg #[.slice ga ns.length gc, .int .i64 r]] w fun e w' => ∃ v, e = .returned (.tuple #[.int .i64 (zG ns r), v]) ∧ CheckL w w' v ns r ∧ Bw w w' := by
  cases hwf : wfB ns r with
  | false =>
    have HW := qJ hwf
    clear hwf
    go_enter Tryz.func49, Tryz.ntmps49
    go_wp2_with (go_at_call 77; refine (wf_any ns _ _ _ _ (hn.below (by repeat first|exact br _|assumption|apply bd|apply bn|apply ba|refine bt ?_ (by assumption))) hgl).mono ?_; rintro e w' ⟨rfl, hbl⟩; rw [qK HW]; obtain ⟨hcc, hff⟩ := qS hbl; have hz0 : w.heap.size < w'.heap.size := (by have := hbl.size; (try simp at this); omega))
    go_ret2
    have he : zG ns r = 1 := by simp [zG, qK HW]
    exact ⟨_, by rw [he]; rfl, by unfold CheckL; rw [he]; simp, (by repeat first|exact br _|assumption|apply bd|apply bn|apply ba|refine bt ?_ (by assumption))⟩
  | true =>
    have HW := qJ hwf
    obtain ⟨h1, h8⟩ := wfB_len hwf
    clear hwf
    by_cases hlt : (kW ns).length < ns.length
    · have he : Hid (zG ns r = 2) := qJ (by simp [zG, qK HW, hlt])
      go_enter Tryz.func49, Tryz.ntmps49
      go_wp2_with (first | (go_at_call 77; refine (wf_any ns _ _ _ _ (hn.below (by repeat first|exact br _|assumption|apply bd|apply bn|apply ba|refine bt ?_ (by assumption))) hgl).mono ?_; rintro e w' ⟨rfl, hbl⟩; rw [qK HW]; obtain ⟨hcc, hff⟩ := qS hbl; have hz0 : w.heap.size < w'.heap.size := (by have := hbl.size; (try simp at this); omega)) | (go_at_call 78; refine (order_any ns _ _ _ _ (hn.below (by repeat first|exact br _|assumption|apply bd|apply bn|apply ba|refine bt ?_ (by assumption))) h8).mono ?_; rintro e w' ⟨v, rfl, hown, hbl⟩; obtain ⟨oa, oc, rfl, hox, hom⟩ := hown.form; obtain ⟨hcc, hff⟩ := qS hbl; have hz0 : w.heap.size < w'.heap.size := (by have := hbl.size; (try simp at this); omega)) | (go_at_call 79; refine (cycle_any ns _ _ _ (kW ns) _ _ _ (hn.below (by repeat first|exact br _|assumption|apply bd|apply bn|apply ba|refine bt ?_ (by assumption))) (hox.below (by repeat first|exact br _|assumption|apply bd|apply bn|apply ba|refine bt ?_ (by assumption))) hom h1 h8).mono ?_; rintro e w' ⟨v, rfl, hcy, hbl⟩))
      go_ret2
      exact ⟨_, by rw [qK he]; rfl, by unfold CheckL; rw [qK he]; simp; exact hcy.weaken (by repeat first|exact br _|assumption|apply bd|apply bn|apply ba|refine bt ?_ (by assumption)), (by repeat first|exact br _|assumption|apply bd|apply bn|apply ba|refine bt ?_ (by assumption))⟩
    · have he : Hid (zG ns r = 0) := qJ (by simp [zG, qK HW, hlt])
      go_enter Tryz.func49, Tryz.ntmps49
      go_wp2_with (first | (go_at_call 77; refine (wf_any ns _ _ _ _ (hn.below (by repeat first|exact br _|assumption|apply bd|apply bn|apply ba|refine bt ?_ (by assumption))) hgl).mono ?_; rintro e w' ⟨rfl, hbl⟩; rw [qK HW]; obtain ⟨hcc, hff⟩ := qS hbl; have hz0 : w.heap.size < w'.heap.size := (by have := hbl.size; (try simp at this); omega)) | (go_at_call 78; refine (order_any ns _ _ _ _ (hn.below (by repeat first|exact br _|assumption|apply bd|apply bn|apply ba|refine bt ?_ (by assumption))) h8).mono ?_; rintro e w' ⟨v, rfl, hown, hbl⟩; obtain ⟨oa, oc, rfl, hox, hom⟩ := hown.form; obtain ⟨hcc, hff⟩ := qS hbl; have hz0 : w.heap.size < w'.heap.size := (by have := hbl.size; (try simp at this); omega)))
      go_ret2
      exact ⟨_, by rw [qK he]; rfl, by unfold CheckL; rw [qK he]; simp, (by repeat first|exact br _|assumption|apply bd|apply bn|apply ba|refine bt ?_ (by assumption))⟩
def kT (x : Nd) : List Int := if x.kind == 0 then [] else if x.kind == 3 then [x.a, x.b] else [x.a]
theorem own_two {W w : World} (m n : Int) (hB : Bw W w) : Own W (w.alloc (.cells #[.int .i64 m, .int .i64 n] 3)) (.slice (some ⟨w.heap.size, 0, none⟩) 2 2) [m, n] :=
  ⟨rfl, .inr ⟨w.heap.size, 2, #[.int .i64 m, .int .i64 n], rfl, hB.size, heap_alloc_new w _, Nat.le_refl _, by unfold maxLen; omega, rfl, rfl⟩⟩
theorem own_two' {W w : World} {g : Nat} (m n : Int) (hg : g = w.heap.size) (hB : Bw W w) : Own W (w.alloc (.cells #[.int .i64 m, .int .i64 n] 3)) (.slice (some ⟨g, 0, none⟩) 2 2) [m, n] := by
  subst hg; exact own_two m n hB
theorem own_one' {W w : World} {g : Nat} (n : Int) (hg : g = w.heap.size) (hB : Bw W w) : Own W (w.alloc (.cells #[.int .i64 n] 3)) (.slice (some ⟨g, 0, none⟩) 1 1) [n] := by
  subst hg; exact own_one n hB
theorem inputsL_0 {x : Nd} (h : (x.kind == 0) = true) : kT x = [] := by simp [kT, h]
theorem inputsL_3 {x : Nd} (h : x.kind = 3) : kT x = [x.a, x.b] := by simp [kT, h]
theorem inputsL_1 {x : Nd} (h : x.kind ≠ 0) (h3 : x.kind ≠ 3) : kT x = [x.a] := by simp [kT, h, h3]
theorem vW (x : Nd) (w : World) :
    Calls Tryz.prog 84 #[x.val] w fun e w' => ∃ v, e = .returned v ∧ Own w w' v (kT x) ∧ Bw w w' := by
  unfold Nd.val
  by_cases h0 : x.kind = 0
  · have h0' : (x.kind == 0) = true := by simp [h0]
    have H0 := qJ (inputsL_0 h0')
    clear h0
    go_enter Tryz.func84, Tryz.ntmps84
    go_wp2
    go_ret
    exact ⟨_, rfl, by rw [qK H0]; exact Own.nil _ _, (by repeat first|exact br _|assumption|apply bd|apply bn|apply ba|refine bt ?_ (by assumption))⟩
  · by_cases h3 : x.kind = 3
    · have H3 := qJ (inputsL_3 h3)
      go_enter Tryz.func84, Tryz.ntmps84
      go_wp2
      go_ret
      exact ⟨_, rfl, by rw [qK H3]; refine own_two' _ _ (by simp) ?_; exact (by repeat first|exact br _|assumption|apply bd|apply bn|apply ba|refine bt ?_ (by assumption)), (by repeat first|exact br _|assumption|apply bd|apply bn|apply ba|refine bt ?_ (by assumption))⟩
    · have H1 := qJ (inputsL_1 h0 h3)
      go_enter Tryz.func84, Tryz.ntmps84
      go_wp2
      go_ret
      exact ⟨_, rfl, by rw [qK H1]; refine own_one' _ (by simp) ?_; exact (by repeat first|exact br _|assumption|apply bd|apply bn|apply ba|refine bt ?_ (by assumption)), (by repeat first|exact br _|assumption|apply bd|apply bn|apply ba|refine bt ?_ (by assumption))⟩
theorem zW (x : Nd) : (kT x).length ≤ 2 := by unfold kT; split <;> (try split) <;> simp
theorem takesB_inputs (x : Nd) (n : Int) : kZ x n = vY (kT x) n := by
  by_cases h0 : x.kind = 0
  · rw [inputsL_0 (by simp [h0])]; simp [kZ, vY, h0]
  · by_cases h3 : x.kind = 3
    · rw [inputsL_3 h3, Bool.eq_iff_iff]; simp [kZ, vY, h3]; constructor <;> (rintro (h | h) <;> simp [h])
    · rw [inputsL_1 h0 h3, Bool.eq_iff_iff]; simp [kZ, vY, h0, h3]; constructor <;> (intro h; simp [h])
theorem yD (x : Nd) (n : Int) (w : World) :
    Calls Tryz.prog 85 #[x.val, .int .i64 n] w fun e w' => e = .returned (.bool (kZ x n)) ∧ Bw w w' := by
  have HT := qJ (takesB_inputs x n)
  have hil := zW x
  unfold Nd.val
  go_enter Tryz.func85, Tryz.ntmps85
  go_wp2_with (go_at_call 84; refine (vW x _).mono ?_; rintro e w' ⟨v, rfl, hown, hbl⟩; obtain ⟨la, lc, rfl, hx, hml⟩ := hown.form; clear hown)
  go_loop [6] (fun i => ∃ k : Nat, k ≤ (kT x).length ∧ i = .int .i64 k ∧ ∀ j, j < k → (jD (kT x) j == n) = false) (fun i => (kT x).length - (intOf i).toNat)
  case atStart => exact ⟨0, Nat.zero_le _, rfl, fun j hj => absurd hj (Nat.not_lt_zero j)⟩
  case round =>
    obtain ⟨k, hk, rfl, hno⟩ := hrel
    have Hno := qJ hno
    clear hno
    by_cases hlt : k < (kT x).length
    · obtain ⟨b, off, rfl, hb, hc⟩ := hx k hlt
      have hc1 := hc k hlt
      clear hc
      go_wp2
      · go_ret
        exact ⟨ret_bool (by rw [qK HT, hasB_yes hlt (by assumption)]), (by repeat first|exact br _|assumption|apply bd|apply bn|apply ba|refine bt ?_ (by assumption))⟩
      · go_round
        case rel => exact ⟨k + 1, by omega, by go_num, all_snoc (qK Hno) (by assumption)⟩
        case measure => simp [intOf]; omega
    · go_wp2
      go_ret
      exact ⟨ret_bool (by rw [qK HT, hasB_no fun j hj => (qK Hno) j (by omega)]), (by repeat first|exact br _|assumption|apply bd|apply bn|apply ba|refine bt ?_ (by assumption))⟩
def vP (x : Nd) : Bool :=
  if x.kind == 0 then (x.a == 0) && (x.b == 0) && (x.k == 0) && (x.m == 0)
  else if x.kind == 1 then (x.b == 0) && (x.m == 0)
  else if x.kind == 2 then (x.b == 0) && decide (1 ≤ x.k) && decide (x.k ≤ 100) && decide (0 ≤ x.m) && decide (x.m < x.k)
  else if x.kind == 3 then (x.k == 0) && (x.m == 0) && !(x.a == x.b)
  else if x.kind == 4 then (x.b == 0) && (x.k == 0) && (x.m == 0)
  else if x.kind == 5 then (x.b == 0) && (x.k == 0) && (x.m == 0)
  else if x.kind == 6 then (x.b == 0) && (x.m == 0) && decide (1 ≤ x.k) && decide (x.k ≤ 8)
  else if x.kind == 7 then (x.b == 0) && (x.k == 0) && (x.m == 0)
  else false
def inB (ns : List Nd) (x : Nd) : Bool := (kT x).all (yW ns)
theorem vH (ns : List Nd) (x : Nd) : kX ns x = (vP x && inB ns x) := by
  obtain ⟨kind, a, b, k, m⟩ := x
  by_cases h0 : kind = 0
  · subst h0; rw [Bool.eq_iff_iff]; simp [kX, vP, inB, kT]; omega
  by_cases h3 : kind = 3
  · subst h3; rw [Bool.eq_iff_iff]; simp [kX, vP, inB, kT]
    constructor
    · rintro ⟨h1, h2, ⟨h4, h5⟩, h6⟩; exact ⟨⟨⟨h6, h2⟩, h5⟩, h1, h4⟩
    · rintro ⟨⟨⟨h6, h2⟩, h5⟩, h1, h4⟩; exact ⟨h1, h2, ⟨h4, h5⟩, h6⟩
  by_cases h1 : kind = 1
  · subst h1; rw [Bool.eq_iff_iff]; simp [kX, vP, inB, kT]
    constructor
    · rintro ⟨h1, h2, h3⟩; exact ⟨⟨h2, h3⟩, h1⟩
    · rintro ⟨⟨h2, h3⟩, h1⟩; exact ⟨h1, h2, h3⟩
  by_cases h2 : kind = 2
  · subst h2; rw [Bool.eq_iff_iff]; simp [kX, vP, inB, kT]
    constructor
    · rintro ⟨h1, h2, ⟨⟨h3, h4⟩, h5⟩, h6⟩; exact ⟨⟨⟨⟨⟨h2, h3⟩, h4⟩, h5⟩, h6⟩, h1⟩
    · rintro ⟨⟨⟨⟨⟨h2, h3⟩, h4⟩, h5⟩, h6⟩, h1⟩; exact ⟨h1, h2, ⟨⟨h3, h4⟩, h5⟩, h6⟩
  by_cases h6 : kind = 6
  · subst h6; rw [Bool.eq_iff_iff]; simp [kX, vP, inB, kT]
    constructor
    · rintro ⟨h1, h2, h3, h4, h5⟩; exact ⟨⟨⟨⟨h2, h3⟩, h4⟩, h5⟩, h1⟩
    · rintro ⟨⟨⟨⟨h2, h3⟩, h4⟩, h5⟩, h1⟩; exact ⟨h1, h2, h3, h4, h5⟩
  by_cases h4 : kind = 4
  · subst h4; rw [Bool.eq_iff_iff]; simp [kX, vP, inB, kT]
    constructor
    · rintro ⟨h1, h2, h3, h4⟩; exact ⟨⟨⟨h2, h4⟩, h3⟩, h1⟩
    · rintro ⟨⟨⟨h2, h4⟩, h3⟩, h1⟩; exact ⟨h1, h2, h3, h4⟩
  by_cases h5 : kind = 5
  · subst h5; rw [Bool.eq_iff_iff]; simp [kX, vP, inB, kT]
    constructor
    · rintro ⟨h1, h2, h3, h4⟩; exact ⟨⟨⟨h2, h4⟩, h3⟩, h1⟩
    · rintro ⟨⟨⟨h2, h4⟩, h3⟩, h1⟩; exact ⟨h1, h2, h3, h4⟩
  by_cases h7 : kind = 7
  · subst h7; rw [Bool.eq_iff_iff]; simp [kX, vP, inB, kT]
    constructor
    · rintro ⟨h1, h2, h3, h4⟩; exact ⟨⟨⟨h2, h4⟩, h3⟩, h1⟩
    · rintro ⟨⟨⟨h2, h4⟩, h3⟩, h1⟩; exact ⟨h1, h2, h3, h4⟩
  rw [Bool.eq_iff_iff]; simp [kX, vP, h0, h1, h2, h3, h4, h5, h6, h7]
theorem inB_no {ns : List Nd} {x : Nd} (h : ∃ j, j < (kT x).length ∧ yW ns (jD (kT x) j) = false) : inB ns x = false := by
  obtain ⟨j, hj, hc⟩ := h
  cases e : inB ns x with
  | false => rfl
  | true =>
    unfold inB at e
    rw [List.all_eq_true] at e
    have := e _ (List.getElem_mem hj)
    rw [← zP hj, hc] at this
    exact this.symm
theorem inB_all {ns : List Nd} {x : Nd} (h : ∀ j, j < (kT x).length → yW ns (jD (kT x) j) = true) : inB ns x = true := by
  unfold inB
  rw [List.all_eq_true]
  intro n hn
  obtain ⟨j, hj, rfl⟩ := List.getElem_of_mem hn
  rw [← zP hj]; exact h j hj
theorem cbtfB_false_lo {ns : List Nd} {n : Int} (h : n < 0) : yW ns n = false := by simp [yW, kM]; intro; omega
theorem cbtfB_false_hi {ns : List Nd} {n : Int} (h : (ns.length : Int) ≤ n) : yW ns n = false := by simp [yW, kM]; intro; omega
theorem cbtfB_mid {ns : List Nd} {n : Int} (h0 : 0 ≤ n) (h : n < (ns.length : Int)) : yW ns n = !((qT ns n.toNat).kind == 7) := by simp [yW, kM, h0, h]
theorem preB_out {x : Nd} (h : ¬ (0 ≤ x.kind ∧ x.kind ≤ 7)) : vP x = false := by
  have h0 : x.kind ≠ 0 := by omega
  have h1 : x.kind ≠ 1 := by omega
  have h2 : x.kind ≠ 2 := by omega
  have h3 : x.kind ≠ 3 := by omega
  have h4 : x.kind ≠ 4 := by omega
  have h5 : x.kind ≠ 5 := by omega
  have h6 : x.kind ≠ 6 := by omega
  have h7 : x.kind ≠ 7 := by omega
  simp [vP, h0, h1, h2, h3, h4, h5, h6, h7]
theorem zZ (x : Nd) : vP x = true ↔ ((x.kind = 0 ∧ x.a = 0 ∧ x.b = 0 ∧ x.k = 0 ∧ x.m = 0) ∨ (x.kind = 1 ∧ x.b = 0 ∧ x.m = 0) ∨ (x.kind = 2 ∧ x.b = 0 ∧ 1 ≤ x.k ∧ x.k ≤ 100 ∧ 0 ≤ x.m ∧ x.m < x.k) ∨
    (x.kind = 3 ∧ x.k = 0 ∧ x.m = 0 ∧ x.a ≠ x.b) ∨ (x.kind = 4 ∧ x.b = 0 ∧ x.k = 0 ∧ x.m = 0) ∨ (x.kind = 5 ∧ x.b = 0 ∧ x.k = 0 ∧ x.m = 0) ∨ (x.kind = 6 ∧ x.b = 0 ∧ x.m = 0 ∧ 1 ≤ x.k ∧ x.k ≤ 8) ∨ (x.kind = 7 ∧ x.b = 0 ∧ x.k = 0 ∧ x.m = 0)) := by
  by_cases hk : 0 ≤ x.kind ∧ x.kind ≤ 7
  · have h8 : x.kind = 0 ∨ x.kind = 1 ∨ x.kind = 2 ∨ x.kind = 3 ∨ x.kind = 4 ∨ x.kind = 5 ∨ x.kind = 6 ∨ x.kind = 7 := by omega
    rcases h8 with h | h | h | h | h | h | h | h <;> simp [vP, h] <;> omega
  · rw [preB_out hk]; constructor
    · intro h; cases h
    · omega
def loopsOf : Code → List Code
  | .loop c => c :: loopsOf c
  | .seq a b => loopsOf a ++ loopsOf b
  | .block _ c => loopsOf c
  | .scope c => loopsOf c
  | .cond _ a b => loopsOf a ++ loopsOf b
  | _ => []
def loopAt (b : Option Code) (k : Nat) : Code := ((b.map loopsOf).getD []).getD k .skip
theorem vU (ns : List Nd) (xs : List Int) (ga la : Option Addr) (gc lc gb : Nat) (wb : World) (Q0 : Exit → Act → World → Prop) {s0 s2 s3 s4 s5 s6 s7 s8 s11 s12 s13 s14 s15 s16 s17 s18 s19 s20 s21 s22 s23 s24 s25 s26 s27 s28 s29 s30 s31 s32 s33 s34 s35 s36 s37 s38 s39 s40 s41 s42 s43 s44 s45 s46 s47 s48 s49 s50 s51 s52 s53 s54 s55 s56 s57 s58 s59 s60 s61 s62 s63 s64 s65 s66 s67 s68 s69 s70 s71 s72 s73 s74 s75 s76 s77 s78 s79 s80 s81 s82 s83 s84 s85 s86 s87 s88 s89 s90 s91 s92 s93 s94 s95 s96 s97 s98 s99 s100 s101 s102 s103 s104 s105 s106 s107 s108 s109 s110 s111 s112 s113 s114 s115 s116 s117 s118 s119 s120 s121 s122 s123 s124 s125 s126 s127 s128 s129 s130 s131 s132 s133 s134 s135 s136 s137 s138 s139 s140 s141 s142 s143 s144 s145 s146 s147 s148 s149 s150 s151 s152 s153 s154 s155 s156 s157 s158 s159 s160 s161 s162 s163 s164 s165 s166 s167 s168 s169 s170 s171 s172 s173 s174 s175 s176 s177 s178 s179 s180 s181 s182 s183 s184 s185 s186 s187 s188 s189 s190 s191 s192 s193 s194 s195 s196 s197 : Value}
    (hn : NodesAt wb ga ns) (_hl : ns.length ≤ 8) (hx : IntsAt wb la xs) (hxl : xs.length ≤ 2) (hgb : gb < wb.heap.size) (hg0 : wb.cell? ⟨gb, 0, none⟩ = some (.slice ga ns.length gc))
    (hexit : ∀ ⦃i2 i10 t165 t166 t167 t168 t169 t170 t171 t172 t173 t174 t175 t176 t177 t178 t179 t180 t181 t182 t183 t184 t185 t186 t187 t188 t189 t190 t191 t192 t193 t194 t195 t196 t197 : Value⦄ (w' : World), (∀ j, j < xs.length → yW ns (jD xs j) = true) → Bw wb w' → Q0 (.exit 4) ⟨(s0 :: .pointer (some ⟨gb, 0, none⟩) :: i2 :: s3 :: s4 :: s5 :: s6 :: s7 :: s8 :: .slice la xs.length lc :: i10 :: s11 :: s12 :: s13 :: s14 :: s15 :: s16 :: s17 :: s18 :: s19 :: s20 :: s21 :: s22 :: s23 :: s24 :: s25 :: s26 :: s27 :: s28 :: s29 :: s30 :: s31 :: s32 :: s33 :: s34 :: s35 :: s36 :: s37 :: s38 :: s39 :: s40 :: s41 :: s42 :: s43 :: s44 :: s45 :: s46 :: s47 :: s48 :: s49 :: s50 :: s51 :: s52 :: s53 :: s54 :: s55 :: s56 :: s57 :: s58 :: s59 :: s60 :: s61 :: s62 :: s63 :: s64 :: s65 :: s66 :: s67 :: s68 :: s69 :: s70 :: s71 :: s72 :: s73 :: s74 :: s75 :: s76 :: s77 :: s78 :: s79 :: s80 :: s81 :: s82 :: s83 :: s84 :: s85 :: s86 :: s87 :: s88 :: s89 :: s90 :: s91 :: s92 :: s93 :: s94 :: s95 :: s96 :: s97 :: s98 :: s99 :: s100 :: s101 :: s102 :: s103 :: s104 :: s105 :: s106 :: s107 :: s108 :: s109 :: s110 :: s111 :: s112 :: s113 :: s114 :: s115 :: s116 :: s117 :: s118 :: s119 :: s120 :: s121 :: s122 :: s123 :: s124 :: s125 :: s126 :: s127 :: s128 :: s129 :: s130 :: s131 :: s132 :: s133 :: s134 :: s135 :: s136 :: s137 :: s138 :: s139 :: s140 :: s141 :: s142 :: s143 :: s144 :: s145 :: s146 :: s147 :: s148 :: s149 :: s150 :: s151 :: s152 :: s153 :: s154 :: s155 :: s156 :: s157 :: s158 :: s159 :: s160 :: s161 :: s162 :: s163 :: s164 :: t165 :: t166 :: t167 :: t168 :: t169 :: t170 :: t171 :: t172 :: t173 :: t174 :: t175 :: t176 :: t177 :: t178 :: t179 :: t180 :: t181 :: t182 :: t183 :: t184 :: t185 :: t186 :: t187 :: t188 :: t189 :: t190 :: t191 :: t192 :: t193 :: t194 :: t195 :: t196 :: t197 :: []).toArray, []⟩ w')
    (hret : ∀ ⦃i10 t165 t166 t167 t168 t169 t170 t171 t172 t173 t174 t175 t176 t177 t178 t179 t180 t181 t182 t183 t184 t185 t186 t187 t188 t189 t190 t191 t192 t193 t194 t195 t196 t197 : Value⦄ (w' : World), (∃ j, j < xs.length ∧ yW ns (jD xs j) = false) → Bw wb w' → Q0 .ret ⟨(s0 :: .pointer (some ⟨gb, 0, none⟩) :: .bool false :: s3 :: s4 :: s5 :: s6 :: s7 :: s8 :: .slice la xs.length lc :: i10 :: s11 :: s12 :: s13 :: s14 :: s15 :: s16 :: s17 :: s18 :: s19 :: s20 :: s21 :: s22 :: s23 :: s24 :: s25 :: s26 :: s27 :: s28 :: s29 :: s30 :: s31 :: s32 :: s33 :: s34 :: s35 :: s36 :: s37 :: s38 :: s39 :: s40 :: s41 :: s42 :: s43 :: s44 :: s45 :: s46 :: s47 :: s48 :: s49 :: s50 :: s51 :: s52 :: s53 :: s54 :: s55 :: s56 :: s57 :: s58 :: s59 :: s60 :: s61 :: s62 :: s63 :: s64 :: s65 :: s66 :: s67 :: s68 :: s69 :: s70 :: s71 :: s72 :: s73 :: s74 :: s75 :: s76 :: s77 :: s78 :: s79 :: s80 :: s81 :: s82 :: s83 :: s84 :: s85 :: s86 :: s87 :: s88 :: s89 :: s90 :: s91 :: s92 :: s93 :: s94 :: s95 :: s96 :: s97 :: s98 :: s99 :: s100 :: s101 :: s102 :: s103 :: s104 :: s105 :: s106 :: s107 :: s108 :: s109 :: s110 :: s111 :: s112 :: s113 :: s114 :: s115 :: s116 :: s117 :: s118 :: s119 :: s120 :: s121 :: s122 :: s123 :: s124 :: s125 :: s126 :: s127 :: s128 :: s129 :: s130 :: s131 :: s132 :: s133 :: s134 :: s135 :: s136 :: s137 :: s138 :: s139 :: s140 :: s141 :: s142 :: s143 :: s144 :: s145 :: s146 :: s147 :: s148 :: s149 :: s150 :: s151 :: s152 :: s153 :: s154 :: s155 :: s156 :: s157 :: s158 :: s159 :: s160 :: s161 :: s162 :: s163 :: s164 :: t165 :: t166 :: t167 :: t168 :: t169 :: t170 :: t171 :: t172 :: t173 :: t174 :: t175 :: t176 :: t177 :: t178 :: t179 :: t180 :: t181 :: t182 :: t183 :: t184 :: t185 :: t186 :: t187 :: t188 :: t189 :: t190 :: t191 :: t192 :: t193 :: t194 :: t195 :: t196 :: t197 :: []).toArray, []⟩ w') :
    Code.wp Tryz.prog (Code.loop (loopAt Tryz.f53.body 2)) Q0 ⟨(s0 :: .pointer (some ⟨gb, 0, none⟩) :: s2 :: s3 :: s4 :: s5 :: s6 :: s7 :: s8 :: .slice la xs.length lc :: .int .i64 0 :: s11 :: s12 :: s13 :: s14 :: s15 :: s16 :: s17 :: s18 :: s19 :: s20 :: s21 :: s22 :: s23 :: s24 :: s25 :: s26 :: s27 :: s28 :: s29 :: s30 :: s31 :: s32 :: s33 :: s34 :: s35 :: s36 :: s37 :: s38 :: s39 :: s40 :: s41 :: s42 :: s43 :: s44 :: s45 :: s46 :: s47 :: s48 :: s49 :: s50 :: s51 :: s52 :: s53 :: s54 :: s55 :: s56 :: s57 :: s58 :: s59 :: s60 :: s61 :: s62 :: s63 :: s64 :: s65 :: s66 :: s67 :: s68 :: s69 :: s70 :: s71 :: s72 :: s73 :: s74 :: s75 :: s76 :: s77 :: s78 :: s79 :: s80 :: s81 :: s82 :: s83 :: s84 :: s85 :: s86 :: s87 :: s88 :: s89 :: s90 :: s91 :: s92 :: s93 :: s94 :: s95 :: s96 :: s97 :: s98 :: s99 :: s100 :: s101 :: s102 :: s103 :: s104 :: s105 :: s106 :: s107 :: s108 :: s109 :: s110 :: s111 :: s112 :: s113 :: s114 :: s115 :: s116 :: s117 :: s118 :: s119 :: s120 :: s121 :: s122 :: s123 :: s124 :: s125 :: s126 :: s127 :: s128 :: s129 :: s130 :: s131 :: s132 :: s133 :: s134 :: s135 :: s136 :: s137 :: s138 :: s139 :: s140 :: s141 :: s142 :: s143 :: s144 :: s145 :: s146 :: s147 :: s148 :: s149 :: s150 :: s151 :: s152 :: s153 :: s154 :: s155 :: s156 :: s157 :: s158 :: s159 :: s160 :: s161 :: s162 :: s163 :: s164 :: s165 :: s166 :: s167 :: s168 :: s169 :: s170 :: s171 :: s172 :: s173 :: s174 :: s175 :: s176 :: s177 :: s178 :: s179 :: s180 :: s181 :: s182 :: s183 :: s184 :: s185 :: s186 :: s187 :: s188 :: s189 :: s190 :: s191 :: s192 :: s193 :: s194 :: s195 :: s196 :: s197 :: []).toArray, []⟩ wb := by
  conv => arg 2; arg 1; whnf
  have Hexit := qJ hexit
  have Hret := qJ hret
  clear hexit hret
  go_loopw [10] (fun i wi => ∃ j : Nat, j ≤ xs.length ∧ i = .int .i64 j ∧ (∀ j', j' < j → yW ns (jD xs j') = true) ∧ Bw wb wi) (fun i _ => xs.length - (intOf i).toNat)
  case atStart => exact ⟨0, Nat.zero_le _, rfl, fun j hj => absurd hj (Nat.not_lt_zero j), Bw.refl _⟩
  case round =>
    obtain ⟨j, hj, rfl, hall, hW⟩ := hrel
    have Hall := qJ hall
    clear hall
    obtain ⟨icc, iff⟩ := qS hW
    by_cases hjl : j < xs.length
    · obtain ⟨b2, off2, rfl, hb2, hc2⟩ := hx j hjl
      have hn1 := hc2 j hjl
      clear hc2
      have hj1 : (0 : Int) ≤ (j : Int) := by omega
      have hj2 : (j : Int) < (xs.length : Int) := by omega
      generalize hnn : jD xs j = n at hn1
      have Hnn := qJ hnn
      clear hnn
      by_cases hneg : n < 0
      · have hd : decide (n < 0) = true := by simpa using hneg
        have Hf := qJ (show yW ns (jD xs j) = false by rw [qK Hnn]; exact cbtfB_false_lo hneg)
        go_wp2
        go_quiet (fail)
        go_wp2
        refine (qK Hret) _ ⟨j, hjl, qK Hf⟩ ?_
        exact (by repeat first|exact br _|assumption|apply bd|apply bn|apply ba|refine bt ?_ (by assumption))
      · by_cases hhi : (ns.length : Int) ≤ n
        · have hd : decide (n < 0) = false := by simpa using hneg
          have hd2 : decide ((ns.length : Int) ≤ n) = true := by simpa using hhi
          have Hf := qJ (show yW ns (jD xs j) = false by rw [qK Hnn]; exact cbtfB_false_hi hhi)
          go_wp2
          go_quiet (fail)
          go_wp2
          refine (qK Hret) _ ⟨j, hjl, qK Hf⟩ ?_
          exact (by repeat first|exact br _|assumption|apply bd|apply bn|apply ba|refine bt ?_ (by assumption))
        · obtain ⟨i, rfl⟩ := Int.eq_ofNat_of_zero_le (a := n) (by omega)
          have hi1 : (0 : Int) ≤ (i : Int) := by omega
          have hi2 : (i : Int) < (ns.length : Int) := by omega
          have hd : decide ((i : Int) < 0) = false := by simp
          have hd2 : decide ((ns.length : Int) ≤ (i : Int)) = false := by simp; omega
          have hd3 : decide (ns.length ≤ i) = false := by simp; omega
          obtain ⟨b3, off3, rfl, hb3, hc3⟩ := hn i (by omega)
          have d0 := (hc3 i (by omega)).1
          clear hc3
          have hmid := cbtfB_mid hi1 hi2
          cases h7 : ((qT ns i).kind == 7) with
          | true =>
            have Hf := qJ (show yW ns (jD xs j) = false by rw [qK Hnn, hmid, Int.toNat_natCast, h7]; rfl)
            clear hmid
            go_wp2
            go_quiet (fail)
            go_wp2
            refine (qK Hret) _ ⟨j, hjl, qK Hf⟩ ?_
            exact (by repeat first|exact br _|assumption|apply bd|apply bn|apply ba|refine bt ?_ (by assumption))
          | false =>
            have Hg := qJ (show yW ns (jD xs j) = true by rw [qK Hnn, hmid, Int.toNat_natCast, h7]; rfl)
            clear hmid
            go_wp2
            go_quiet (fail)
            go_wp2
            go_roundw
            case rel => exact ⟨j + 1, by omega, by go_num, all_snoc (qK Hall) (qK Hg), (by repeat first|exact br _|assumption|apply bd|apply bn|apply ba|refine bt ?_ (by assumption))⟩
            case measure => simp [intOf]; omega
    · go_wp2
      refine (qK Hexit) _ (fun j' hj' => (qK Hall) j' (by omega)) ?_
      exact (by repeat first|exact br _|assumption|apply bd|apply bn|apply ba|refine bt ?_ (by assumption))
def SRnd (ns : List Nd) (k : Nat) (ga : Option Addr) (gc gb : Nat) (wb : World) (Q0 : Exit → Act → World → Prop) (P : Prop) : Prop := ∀ ⦃s0 s2 s3 s4 s6 s7 s8 s9 s10 s11 s12 s13 s14 s15 s16 s17 s18 s19 s20 s21 s22 s23 s24 s25 s26 s27 s28 s29 s30 s31 s32 s33 s34 s35 s36 s37 s38 s39 s40 s41 s42 s43 s44 s45 s46 s47 s48 s49 s50 s51 s52 s53 s54 s55 s56 s57 s58 s59 s60 s61 s62 s63 s64 s65 s66 s67 s68 s69 s70 s71 s72 s73 s74 s75 s76 s77 s78 s79 s80 s81 s82 s83 s84 s85 s86 s87 s88 s89 s90 s91 s92 s93 s94 s95 s96 s97 s98 s99 s100 s101 s102 s103 s104 s105 s106 s107 s108 s109 s110 s111 s112 s113 s114 s115 s116 s117 s118 s119 s120 s121 s122 s123 s124 s125 s126 s127 s128 s129 s130 s131 s132 s133 s134 s135 s136 s137 s138 s139 s140 s141 s142 s143 s144 s145 s146 s147 s148 s149 s150 s151 s152 s153 s154 s155 s156 s157 s158 s159 s160 s161 s162 s163 s164 s165 s166 s167 s168 s169 s170 s171 s172 s173 s174 s175 s176 s177 s178 s179 s180 s181 s182 s183 s184 s185 s186 s187 s188 s189 s190 s191 s192 s193 s194 s195 s196 s197 : Value⦄,
    NodesAt wb ga ns → ns.length ≤ 8 → k < ns.length → gb < wb.heap.size → wb.cell? ⟨gb, 0, none⟩ = some (.slice ga ns.length gc) → P →
    (∀ ⦃t2 t6 t7 t8 t9 t10 t49 t50 t51 t52 t53 t54 t55 t56 t57 t58 t59 t60 t61 t62 t63 t64 t65 t66 t67 t68 t69 t70 t71 t72 t73 t74 t75 t76 t77 t78 t79 t80 t81 t82 t83 t84 t85 t86 t87 t88 t89 t90 t91 t92 t93 t94 t95 t96 t97 t98 t99 t100 t101 t102 t103 t104 t105 t106 t107 t108 t109 t110 t111 t112 t113 t114 t115 t116 t117 t118 t119 t120 t121 t122 t123 t124 t125 t126 t127 t128 t129 t130 t131 t132 t133 t134 t135 t136 t137 t138 t139 t140 t141 t142 t143 t144 t145 t146 t147 t148 t149 t150 t151 t152 t153 t154 t155 t156 t157 t158 t159 t160 t161 t162 t163 t164 t165 t166 t167 t168 t169 t170 t171 t172 t173 t174 t175 t176 t177 t178 t179 t180 t181 t182 t183 t184 t185 t186 t187 t188 t189 t190 t191 t192 t193 t194 t195 t196 t197 : Value⦄ (w' : World), kX ns (qT ns k) = true → Bw wb w' → Q0 .normal ⟨(s0 :: .pointer (some ⟨gb, 0, none⟩) :: t2 :: s3 :: s4 :: .int .i64 ((k : Int) + 1) :: t6 :: t7 :: t8 :: t9 :: t10 :: s11 :: s12 :: s13 :: s14 :: s15 :: s16 :: s17 :: s18 :: s19 :: s20 :: s21 :: s22 :: s23 :: s24 :: s25 :: s26 :: s27 :: s28 :: s29 :: s30 :: s31 :: s32 :: s33 :: s34 :: s35 :: s36 :: s37 :: s38 :: s39 :: s40 :: s41 :: s42 :: s43 :: s44 :: s45 :: s46 :: s47 :: s48 :: t49 :: t50 :: t51 :: t52 :: t53 :: t54 :: t55 :: t56 :: t57 :: t58 :: t59 :: t60 :: t61 :: t62 :: t63 :: t64 :: t65 :: t66 :: t67 :: t68 :: t69 :: t70 :: t71 :: t72 :: t73 :: t74 :: t75 :: t76 :: t77 :: t78 :: t79 :: t80 :: t81 :: t82 :: t83 :: t84 :: t85 :: t86 :: t87 :: t88 :: t89 :: t90 :: t91 :: t92 :: t93 :: t94 :: t95 :: t96 :: t97 :: t98 :: t99 :: t100 :: t101 :: t102 :: t103 :: t104 :: t105 :: t106 :: t107 :: t108 :: t109 :: t110 :: t111 :: t112 :: t113 :: t114 :: t115 :: t116 :: t117 :: t118 :: t119 :: t120 :: t121 :: t122 :: t123 :: t124 :: t125 :: t126 :: t127 :: t128 :: t129 :: t130 :: t131 :: t132 :: t133 :: t134 :: t135 :: t136 :: t137 :: t138 :: t139 :: t140 :: t141 :: t142 :: t143 :: t144 :: t145 :: t146 :: t147 :: t148 :: t149 :: t150 :: t151 :: t152 :: t153 :: t154 :: t155 :: t156 :: t157 :: t158 :: t159 :: t160 :: t161 :: t162 :: t163 :: t164 :: t165 :: t166 :: t167 :: t168 :: t169 :: t170 :: t171 :: t172 :: t173 :: t174 :: t175 :: t176 :: t177 :: t178 :: t179 :: t180 :: t181 :: t182 :: t183 :: t184 :: t185 :: t186 :: t187 :: t188 :: t189 :: t190 :: t191 :: t192 :: t193 :: t194 :: t195 :: t196 :: t197 :: []).toArray, []⟩ w') →
    (∀ ⦃t5 t6 t7 t8 t9 t10 t49 t50 t51 t52 t53 t54 t55 t56 t57 t58 t59 t60 t61 t62 t63 t64 t65 t66 t67 t68 t69 t70 t71 t72 t73 t74 t75 t76 t77 t78 t79 t80 t81 t82 t83 t84 t85 t86 t87 t88 t89 t90 t91 t92 t93 t94 t95 t96 t97 t98 t99 t100 t101 t102 t103 t104 t105 t106 t107 t108 t109 t110 t111 t112 t113 t114 t115 t116 t117 t118 t119 t120 t121 t122 t123 t124 t125 t126 t127 t128 t129 t130 t131 t132 t133 t134 t135 t136 t137 t138 t139 t140 t141 t142 t143 t144 t145 t146 t147 t148 t149 t150 t151 t152 t153 t154 t155 t156 t157 t158 t159 t160 t161 t162 t163 t164 t165 t166 t167 t168 t169 t170 t171 t172 t173 t174 t175 t176 t177 t178 t179 t180 t181 t182 t183 t184 t185 t186 t187 t188 t189 t190 t191 t192 t193 t194 t195 t196 t197 : Value⦄ (w' : World), kX ns (qT ns k) = false → Bw wb w' → Q0 .ret ⟨(s0 :: .pointer (some ⟨gb, 0, none⟩) :: .bool false :: s3 :: s4 :: t5 :: t6 :: t7 :: t8 :: t9 :: t10 :: s11 :: s12 :: s13 :: s14 :: s15 :: s16 :: s17 :: s18 :: s19 :: s20 :: s21 :: s22 :: s23 :: s24 :: s25 :: s26 :: s27 :: s28 :: s29 :: s30 :: s31 :: s32 :: s33 :: s34 :: s35 :: s36 :: s37 :: s38 :: s39 :: s40 :: s41 :: s42 :: s43 :: s44 :: s45 :: s46 :: s47 :: s48 :: t49 :: t50 :: t51 :: t52 :: t53 :: t54 :: t55 :: t56 :: t57 :: t58 :: t59 :: t60 :: t61 :: t62 :: t63 :: t64 :: t65 :: t66 :: t67 :: t68 :: t69 :: t70 :: t71 :: t72 :: t73 :: t74 :: t75 :: t76 :: t77 :: t78 :: t79 :: t80 :: t81 :: t82 :: t83 :: t84 :: t85 :: t86 :: t87 :: t88 :: t89 :: t90 :: t91 :: t92 :: t93 :: t94 :: t95 :: t96 :: t97 :: t98 :: t99 :: t100 :: t101 :: t102 :: t103 :: t104 :: t105 :: t106 :: t107 :: t108 :: t109 :: t110 :: t111 :: t112 :: t113 :: t114 :: t115 :: t116 :: t117 :: t118 :: t119 :: t120 :: t121 :: t122 :: t123 :: t124 :: t125 :: t126 :: t127 :: t128 :: t129 :: t130 :: t131 :: t132 :: t133 :: t134 :: t135 :: t136 :: t137 :: t138 :: t139 :: t140 :: t141 :: t142 :: t143 :: t144 :: t145 :: t146 :: t147 :: t148 :: t149 :: t150 :: t151 :: t152 :: t153 :: t154 :: t155 :: t156 :: t157 :: t158 :: t159 :: t160 :: t161 :: t162 :: t163 :: t164 :: t165 :: t166 :: t167 :: t168 :: t169 :: t170 :: t171 :: t172 :: t173 :: t174 :: t175 :: t176 :: t177 :: t178 :: t179 :: t180 :: t181 :: t182 :: t183 :: t184 :: t185 :: t186 :: t187 :: t188 :: t189 :: t190 :: t191 :: t192 :: t193 :: t194 :: t195 :: t196 :: t197 :: []).toArray, []⟩ w') →
    Code.wp Tryz.prog (loopAt Tryz.f53.body 1) Q0 ⟨(s0 :: .pointer (some ⟨gb, 0, none⟩) :: s2 :: s3 :: s4 :: .int .i64 (k : Int) :: s6 :: s7 :: s8 :: s9 :: s10 :: s11 :: s12 :: s13 :: s14 :: s15 :: s16 :: s17 :: s18 :: s19 :: s20 :: s21 :: s22 :: s23 :: s24 :: s25 :: s26 :: s27 :: s28 :: s29 :: s30 :: s31 :: s32 :: s33 :: s34 :: s35 :: s36 :: s37 :: s38 :: s39 :: s40 :: s41 :: s42 :: s43 :: s44 :: s45 :: s46 :: s47 :: s48 :: s49 :: s50 :: s51 :: s52 :: s53 :: s54 :: s55 :: s56 :: s57 :: s58 :: s59 :: s60 :: s61 :: s62 :: s63 :: s64 :: s65 :: s66 :: s67 :: s68 :: s69 :: s70 :: s71 :: s72 :: s73 :: s74 :: s75 :: s76 :: s77 :: s78 :: s79 :: s80 :: s81 :: s82 :: s83 :: s84 :: s85 :: s86 :: s87 :: s88 :: s89 :: s90 :: s91 :: s92 :: s93 :: s94 :: s95 :: s96 :: s97 :: s98 :: s99 :: s100 :: s101 :: s102 :: s103 :: s104 :: s105 :: s106 :: s107 :: s108 :: s109 :: s110 :: s111 :: s112 :: s113 :: s114 :: s115 :: s116 :: s117 :: s118 :: s119 :: s120 :: s121 :: s122 :: s123 :: s124 :: s125 :: s126 :: s127 :: s128 :: s129 :: s130 :: s131 :: s132 :: s133 :: s134 :: s135 :: s136 :: s137 :: s138 :: s139 :: s140 :: s141 :: s142 :: s143 :: s144 :: s145 :: s146 :: s147 :: s148 :: s149 :: s150 :: s151 :: s152 :: s153 :: s154 :: s155 :: s156 :: s157 :: s158 :: s159 :: s160 :: s161 :: s162 :: s163 :: s164 :: s165 :: s166 :: s167 :: s168 :: s169 :: s170 :: s171 :: s172 :: s173 :: s174 :: s175 :: s176 :: s177 :: s178 :: s179 :: s180 :: s181 :: s182 :: s183 :: s184 :: s185 :: s186 :: s187 :: s188 :: s189 :: s190 :: s191 :: s192 :: s193 :: s194 :: s195 :: s196 :: s197 :: []).toArray, []⟩ wb
end Go.Proofs.YtfemleimkbjehaaGreat
