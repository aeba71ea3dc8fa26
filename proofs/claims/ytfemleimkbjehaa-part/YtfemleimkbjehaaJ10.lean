import Derived.Test.YtfemleimkbjehaaJ9
set_option maxRecDepth 1000000
set_option maxHeartbeats 40000000
set_option linter.unusedVariables false
set_option linter.unusedSimpArgs false
namespace Go.Proofs.Ytfemleimkbjehaa
open Go.RowKit
theorem good_of {ns : List Nd} {r : Int} (h : xY ns r = 0) : Good ns r (vW ns) ∧ ∃ R : Nat, r = R ∧ 1 ≤ R ∧ R ≤ 4 := by
  unfold xY at h
  split at h
  · rename_i hw
    split at h
    · simp at h
    · rename_i hl
      refine ⟨⟨hw, ordTo_ok ns ns.length, order_all hl⟩, r.toNat, ?_⟩
      simp [wfB] at hw
      omega
  · simp at h
set_option maxHeartbeats 1000000 in
theorem fX (ns : List Nd) (ga : Option Addr) (gc : Nat) (r n kd : Int) (w : World) (hn : NodesAt w ga ns) (_hgl : ns.length ≤ maxLen) :
    Calls Try.prog 129 #[.agg #[.slice ga ns.length gc, .int .i64 r], .int .i64 n, .int .i64 kd] w fun e w' => e = .returned (.bool (jQ ns.length n && ((qV ns n.toNat).kind == kd))) ∧ Bw w w' := by
  cases h1 : jQ ns.length n with
  | false =>
    have H1 := qJ h1
    clear h1
    go_enter Try.func129, Try.ntmps129
    go_wp2_with (go_at_call 74; refine (xU _ _ _ _ _ _).mono ?_; rintro e w' ⟨rfl, hbl⟩; rw [qK H1]; obtain ⟨hcc, hff⟩ := qX hbl; have hz0 : w.heap.size < w'.heap.size := (by have := hbl.size; (try simp at this); omega))
    go_ret
    exact ⟨ret_bool (by simp), (by repeat first|exact br _|assumption|apply bd|apply bn|apply ba|refine bt ?_ (by assumption))⟩
  | true =>
    have H1 := qJ h1
    obtain ⟨b1, b2⟩ := isNodeB_iff.1 h1
    obtain ⟨k, rfl⟩ := Int.eq_ofNat_of_zero_le b1
    have hk : k < ns.length := by omega
    clear h1 b1 b2
    obtain ⟨b, off, rfl, hb, hc⟩ := hn k hk
    have c0 := (hc k hk).1
    clear hc
    rw [Int.toNat_natCast]
    go_enter Try.func129, Try.ntmps129
    go_wp2_with (go_at_call 74; refine (xU _ _ _ _ _ _).mono ?_; rintro e w' ⟨rfl, hbl⟩; rw [qK H1]; obtain ⟨hcc, hff⟩ := qX hbl; have hz0 : w.heap.size < w'.heap.size := (by have := hbl.size; (try simp at this); omega); have hzb : b < w'.heap.size := (by omega))
    go_ret
    exact ⟨ret_bool (by simp), (by repeat first|exact br _|assumption|apply bd|apply bn|apply ba|refine bt ?_ (by assumption))⟩
set_option maxRecDepth 100000 in
set_option maxHeartbeats 2000000 in
theorem pbetween_any (L : Nat) (D : Nat → Nat → Int) (n y : Nat) (da : Option Addr) (dc : Nat) (w : World) (hD : TabAt w da L L D) (hn : n < L) (hy : y < L) (hL : L ≤ 8) :
    Calls Try.prog 142 #[.agg #[.slice da L dc], .int .i64 (n : Int), .int .i64 (y : Int)] w fun en w' => en = .returned (.int .i64 (D n y)) ∧ Bw w w' := by
  obtain ⟨tb, toff, rfl, htb, tpb, tpo, tpc, td0, htpb, tdc⟩ := hD n hn
  have td1 := tdc y hy
  clear tdc
  have hj1 : (n : Int) < (L : Int) := by omega
  have hj2 : (y : Int) < (L : Int) := by omega
  have d1 : decide ((n : Int) < 0) = false := by simp
  have d2 : decide ((L : Int) ≤ (n : Int)) = false := by simp; omega
  have d3 : decide ((y : Int) < 0) = false := by simp
  have d4 : decide ((L : Int) ≤ (y : Int)) = false := by simp; omega
  go_enter Try.func142, Try.ntmps142
  go_wp2_with fail
  go_ret
  exact ⟨rfl, (by repeat first|exact br _|assumption|apply bd|apply bn|apply ba|refine bt ?_ (by assumption))⟩
set_option maxRecDepth 100000 in
set_option maxHeartbeats 4000000 in
theorem pfirst_any {ns : List Nd} {D : Nat → Nat → Int} {na da : Option Addr} {nc dc : Nat} (n e s y : Nat) (r : Int) (out : Bool) (ct : Int) (w : World) (hnd : NodesAt w na ns) (hdt : TabAt w da ns.length ns.length D) (h8 : ns.length ≤ 8) (hn : n < ns.length) (hy : y < ns.length) (hs : s < 4) (hD : D n y ≤ 1000) (hD1 : -1 ≤ D n y) :
    Calls Try.prog 118 #[.agg #[.slice na ns.length nc, .int .i64 r], .agg #[.slice da ns.length dc], .agg #[.int .i64 (n : Int), .bool out, .int .i64 (e : Int), .int .i64 (s : Int), .int .i64 ct], .int .i64 (y : Int)] w fun en w' => en = .returned (.int .i64 (jN ns D n out s y)) ∧ Bw w w' := by
  have Hb := qJ (fun (w' : World) (hB : Bw w w') => pbetween_any ns.length D n y da dc w' (hdt.below hB) hn hy h8)
  have Hk : Hid (∀ (w' : World), Bw w w' → Calls Try.prog 129 #[.agg #[.slice na ns.length nc, .int .i64 r], .int .i64 (n : Int), .int .i64 4] w' fun e w'' => e = .returned (.bool ((qV ns n).kind == 4)) ∧ Bw w' w'') := qJ (fun w' hB => by
    have := fX ns na nc r (n : Int) 4 w' (hnd.below hB) (by unfold maxLen; omega)
    rw [show jQ ns.length (n : Int) = true from isNodeB_iff.2 ⟨by omega, by omega⟩, Int.toNat_natCast, Bool.true_and] at this
    exact this)
  have hny : ((n : Int) == (y : Int)) = (n == y) := by rw [Bool.eq_iff_iff]; simp; omega
  have Hc : Hid (jN ns D n out s y = if !out && (n == y) then (s : Int) else if decide (D n y < 0) then -1 else if !out && ((qV ns n).kind == 4) then s + (D n y + 1) else s + D n y) := qJ rfl
  generalize ((qV ns n).kind == 4) = kb at *
  by_cases hd : D n y < 0
  · have hdd : decide (D n y < 0) = true := by simpa using hd
    have hdm : D n y = -1 := by omega
    rw [hdm] at Hb
    cases out with
    | true =>
      have He : Hid (jN ns D n true s y = -1) := qJ (by rw [qK Hc, hdd]; rfl)
      clear Hc hd hdm hdd
      go_enter Try.func118, Try.ntmps118
      go_wp2_with (go_at_call 142; refine ((qK Hb) _ (by repeat first|exact br _|assumption|apply bd|apply bn|apply ba|refine bt ?_ (by assumption))).mono ?_; rintro en w' ⟨rfl, hbl⟩)
      go_ret
      exact ⟨kN (qK He).symm, (by repeat first|exact br _|assumption|apply bd|apply bn|apply ba|refine bt ?_ (by assumption))⟩
    | false =>
      cases hxy : (n == y) with
      | true =>
        rw [hxy] at hny
        have He : Hid (jN ns D n false s y = s) := qJ (by rw [qK Hc, hxy]; rfl)
        clear Hc hd hdm hdd
        go_enter Try.func118, Try.ntmps118
        go_wp2_with fail
        go_ret
        exact ⟨kN (qK He).symm, (by repeat first|exact br _|assumption|apply bd|apply bn|apply ba|refine bt ?_ (by assumption))⟩
      | false =>
        rw [hxy] at hny
        have He : Hid (jN ns D n false s y = -1) := qJ (by rw [qK Hc, hxy, hdd]; rfl)
        clear Hc hd hdm hdd
        go_enter Try.func118, Try.ntmps118
        go_wp2_with (go_at_call 142; refine ((qK Hb) _ (by repeat first|exact br _|assumption|apply bd|apply bn|apply ba|refine bt ?_ (by assumption))).mono ?_; rintro en w' ⟨rfl, hbl⟩)
        go_ret
        exact ⟨kN (qK He).symm, (by repeat first|exact br _|assumption|apply bd|apply bn|apply ba|refine bt ?_ (by assumption))⟩
  · have hdd : decide (D n y < 0) = false := by simpa using hd
    have hd0 : 0 ≤ D n y := by omega
    have hdm : (D n y == -1) = false := by simp; omega
    cases out with
    | true =>
      have He : Hid (jN ns D n true s y = s + D n y) := qJ (by rw [qK Hc, hdd]; rfl)
      clear Hc hd hdd
      generalize D n y = dd at *
      go_enter Try.func118, Try.ntmps118
      go_wp2_with (go_at_call 142; refine ((qK Hb) _ (by repeat first|exact br _|assumption|apply bd|apply bn|apply ba|refine bt ?_ (by assumption))).mono ?_; rintro en w' ⟨rfl, hbl⟩; obtain ⟨hcc, hff⟩ := qX hbl; have hz0 : w.heap.size < w'.heap.size := (by have := hbl.size; (try simp at this); omega); have hz1 : w.heap.size + 1 < w'.heap.size := (by have := hbl.size; (try simp at this); omega); have hz2 : w.heap.size + 2 < w'.heap.size := (by have := hbl.size; (try simp at this); omega))
      go_ret
      exact ⟨kN (qK He).symm, (by repeat first|exact br _|assumption|apply bd|apply bn|apply ba|refine bt ?_ (by assumption))⟩
    | false =>
      cases hxy : (n == y) with
      | true =>
        rw [hxy] at hny
        have He : Hid (jN ns D n false s y = s) := qJ (by rw [qK Hc, hxy]; rfl)
        clear Hc hd hdd
        go_enter Try.func118, Try.ntmps118
        go_wp2_with fail
        go_ret
        exact ⟨kN (qK He).symm, (by repeat first|exact br _|assumption|apply bd|apply bn|apply ba|refine bt ?_ (by assumption))⟩
      | false =>
        rw [hxy] at hny
        cases kb with
        | true =>
          have He : Hid (jN ns D n false s y = s + (D n y + 1)) := qJ (by rw [qK Hc, hxy, hdd]; rfl)
          clear Hc hd hdd
          generalize D n y = dd at *
          go_enter Try.func118, Try.ntmps118
          go_wp2_with (first | (go_at_call 142; refine ((qK Hb) _ (by repeat first|exact br _|assumption|apply bd|apply bn|apply ba|refine bt ?_ (by assumption))).mono ?_; rintro en w' ⟨rfl, hbl⟩; obtain ⟨hcc, hff⟩ := qX hbl; have hz0 : w.heap.size < w'.heap.size := (by have := hbl.size; (try simp at this); omega); have hz1 : w.heap.size + 1 < w'.heap.size := (by have := hbl.size; (try simp at this); omega); have hz2 : w.heap.size + 2 < w'.heap.size := (by have := hbl.size; (try simp at this); omega)) | (go_at_call 129; refine ((qK Hk) _ (by repeat first|exact br _|assumption|apply bd|apply bn|apply ba|refine bt ?_ (by assumption))).mono ?_; rintro en w2 ⟨rfl, hbl2⟩; obtain ⟨hcc2, hff2⟩ := qX hbl2))
          go_ret
          exact ⟨kN (qK He).symm, (by repeat first|exact br _|assumption|apply bd|apply bn|apply ba|refine bt ?_ (by assumption))⟩
        | false =>
          have He : Hid (jN ns D n false s y = s + D n y) := qJ (by rw [qK Hc, hxy, hdd]; rfl)
          clear Hc hd hdd
          generalize D n y = dd at *
          go_enter Try.func118, Try.ntmps118
          go_wp2_with (first | (go_at_call 142; refine ((qK Hb) _ (by repeat first|exact br _|assumption|apply bd|apply bn|apply ba|refine bt ?_ (by assumption))).mono ?_; rintro en w' ⟨rfl, hbl⟩; obtain ⟨hcc, hff⟩ := qX hbl; have hz0 : w.heap.size < w'.heap.size := (by have := hbl.size; (try simp at this); omega); have hz1 : w.heap.size + 1 < w'.heap.size := (by have := hbl.size; (try simp at this); omega); have hz2 : w.heap.size + 2 < w'.heap.size := (by have := hbl.size; (try simp at this); omega)) | (go_at_call 129; refine ((qK Hk) _ (by repeat first|exact br _|assumption|apply bd|apply bn|apply ba|refine bt ?_ (by assumption))).mono ?_; rintro en w2 ⟨rfl, hbl2⟩; obtain ⟨hcc2, hff2⟩ := qX hbl2))
          go_ret
          exact ⟨kN (qK He).symm, (by repeat first|exact br _|assumption|apply bd|apply bn|apply ba|refine bt ?_ (by assumption))⟩
theorem Try.infoTime : (Try.prog.info? 75).map (fun i => (i.zero, i.size, i.bytes)) = some (some (.agg #[.int .i64 0, .int .i64 0]), 2, 16) := by kernel_rfl
structure Tm where
  e : Int
  s : Int
def Tm.cells (t : Tm) : List Value := [.int .i64 t.e, .int .i64 t.s]
def nB (l : List Tm) (k : Nat) : Tm := l.getD k ⟨0, 0⟩
def vH (l : List Tm) : List Value := l.flatMap Tm.cells
def TmsAt (w : World) (ad : Option Addr) (ts : List Tm) : Prop :=
  ∀ i, i < ts.length → ∃ b off, ad = some ⟨b, off, none⟩ ∧ b < w.heap.size ∧ ∀ j, j < ts.length → w.cell? ⟨b, off + j * 2, none⟩ = some (.int .i64 (nB ts j).e) ∧ w.cell? ⟨b, off + j * 2 + 1, none⟩ = some (.int .i64 (nB ts j).s)
theorem TmsAt.below {w w' : World} {ad : Option Addr} {ts : List Tm} (h : TmsAt w ad ts) (hb : Bw w w') : TmsAt w' ad ts := by
  intro i hi
  obtain ⟨b, off, e, hlt, hc⟩ := h i hi
  refine ⟨b, off, e, Nat.lt_of_lt_of_le hlt hb.size, fun j hj => ?_⟩
  obtain ⟨q, _⟩ := qX hb
  obtain ⟨c0, c1⟩ := hc j hj
  exact ⟨(q _ _ hlt).trans c0, (q _ _ hlt).trans c1⟩
def OwnT (W w : World) (v : Value) (ts : List Tm) : Prop := w.ownsRow W.heap.size 75 2 v ts.length (vH ts)
theorem OwnT.nil (W w : World) : OwnT W w (.slice none 0 0) [] := World.ownsRow_nil _ _ _ _
theorem OwnT.bw {W a b : World} {v : Value} {ts : List Tm} (h : OwnT W a v ts) (hb : Bw a b) : OwnT W b v ts := qP h fun g hg => Below.block hb g hg
theorem OwnT.weaken {W V a : World} {v : Value} {ts : List Tm} (h : OwnT W a v ts) (hb : Bw V W) : OwnT V a v ts := kU h hb.size
theorem OwnT.snoc {W w : World} {v : Value} {ts : List Tm} {t : Tm} (h : w.ownsRow W.heap.size 75 2 v (ts.length + 1) (vH ts ++ t.cells)) : OwnT W w v (ts ++ [t]) := by
  unfold OwnT; rw [show vH (ts ++ [t]) = vH ts ++ t.cells by simp [vH], List.length_append]; exact h
theorem tmsAt_of {w : World} {v : Value} {base : Nat} {ty : TypeId} {ts : List Tm} (h : w.ownsRow base ty 2 v ts.length (vH ts)) : TmsAt w (yQ v) ts := by
  intro i hi
  obtain ⟨g, e, hg, hc⟩ := vT h (by omega)
  refine ⟨g, 0, e, hg, fun j hj => ?_⟩
  have key : ∀ f u, f < 2 → (Tm.cells (nB ts j))[f]? = some u → w.cell? ⟨g, 0 + j * 2 + f, none⟩ = some u := fun f u hf hu => by
    rw [Nat.zero_add]; exact hc _ _ (by unfold vH; rw [mW (f := Tm.cells) (k := 2) (d := ⟨0, 0⟩) (fun a => rfl) ts j hj f hf]; exact hu)
  exact ⟨key 0 _ (by omega) rfl, key 1 _ (by omega) rfl⟩
theorem tm_cells {w : World} {g : Nat} {t : Tm} (h0 : w.cell? ⟨g, 0, none⟩ = some (.int .i64 t.e)) (h1 : w.cell? ⟨g, 1, none⟩ = some (.int .i64 t.s)) : ∀ j u, t.cells[j]? = some u → w.cell? ⟨g, j, none⟩ = some u := by
  intro j u hj
  unfold Tm.cells at hj
  match j, hj with
  | 0, hj => simp at hj; subst hj; exact h0
  | 1, hj => simp at hj; subst hj; exact h1
theorem tm_one (t : Tm) : ∀ u ∈ t.cells, u.oneCell' = true := by
  intro u hu
  simp [Tm.cells] at hu
  rcases hu with rfl | rfl <;> rfl
def comB (ns : List Nd) (D : Nat → Nat → Int) (R : Nat) (ps : List Pt) (y i : Nat) : Bool := decide (0 < (vU ps i).count) && (decide (0 ≤ jN ns D (vU ps i).node.toNat (vU ps i).out (vU ps i).round.toNat y) && decide (jN ns D (vU ps i).node.toNat (vU ps i).out (vU ps i).round.toNat y < R))
def yG (ns : List Nd) (D : Nat → Nat → Int) (R : Nat) (ps : List Pt) (y : Nat) : Nat → List Tm
  | 0 => []
  | i + 1 => if comB ns D R ps y i then yG ns D R ps y i ++ [⟨(vU ps i).epoch, jN ns D (vU ps i).node.toNat (vU ps i).out (vU ps i).round.toNat y⟩] else yG ns D R ps y i
theorem comTo_yes {ns : List Nd} {D : Nat → Nat → Int} {R : Nat} {ps : List Pt} {y i : Nat} (h : comB ns D R ps y i = true) : yG ns D R ps y (i + 1) = yG ns D R ps y i ++ [⟨(vU ps i).epoch, jN ns D (vU ps i).node.toNat (vU ps i).out (vU ps i).round.toNat y⟩] := by rw [yG, if_pos h]
theorem comTo_no {ns : List Nd} {D : Nat → Nat → Int} {R : Nat} {ps : List Pt} {y i : Nat} (h : comB ns D R ps y i = false) : yG ns D R ps y (i + 1) = yG ns D R ps y i := by rw [yG, h]; rfl
def eqB (a : Tm) (e s : Nat) : Bool := (a.e == (e : Int)) && (a.s == (s : Int))
def upB (a : Tm) (e s : Nat) : Bool := decide (a.e ≤ (e : Int)) && decide (a.s ≤ (s : Int))
def inTo (ts : List Tm) (e s : Nat) : Nat → Bool
  | 0 => false
  | i + 1 => inTo ts e s i || eqB (nB ts i) e s
theorem vN_ok (T : Nat → Int) (R L : Nat) : ∀ p ∈ vN T R L, wP L R p := by
  have hS : ∀ n k e, n < L → e < 6 → ∀ s, s ≤ R → ∀ p ∈ vS T R n k e s, wP L R p := by
    intro n k e hn he s
    induction s with
    | zero => intro _ p hp; simp [vS] at hp
    | succ s ih =>
      intro hs p hp
      unfold vS at hp
      split at hp
      · exact ih (by omega) p hp
      · rcases List.mem_append.1 hp with hp | hp
        · exact ih (by omega) p hp
        · simp at hp; subst hp; exact ⟨n, e, s, rfl, hn, rfl, he, rfl, by omega⟩
  have hE : ∀ n k, n < L → ∀ e, e ≤ 6 → ∀ p ∈ vE T R n k e, wP L R p := by
    intro n k hn e
    induction e with
    | zero => intro _ p hp; simp [vE] at hp
    | succ e ih =>
      intro he p hp
      rcases List.mem_append.1 hp with hp | hp
      · exact ih (by omega) p hp
      · exact hS n k e hn (by omega) R (Nat.le_refl _) p hp
  have hK : ∀ n, n < L → ∀ k, ∀ p ∈ vK T R n k, wP L R p := by
    intro n hn k
    induction k with
    | zero => intro p hp; simp [vK] at hp
    | succ k ih =>
      intro p hp
      rcases List.mem_append.1 hp with hp | hp
      · exact ih p hp
      · exact hE n k hn 6 (Nat.le_refl _) p hp
  have hN : ∀ n, n ≤ L → ∀ p ∈ vN T R n, wP L R p := by
    intro n
    induction n with
    | zero => intro _ p hp; simp [vN] at hp
    | succ n ih =>
      intro hn p hp
      rcases List.mem_append.1 hp with hp | hp
      · exact ih (by omega) p hp
      · exact hK n (by omega) 2 p hp
  exact hN L (Nat.le_refl _)
theorem tU {ps : List Pt} {j : Nat} (h : j < ps.length) : vU ps j ∈ ps := by
  unfold vU; rw [lJ _ _ h]; exact List.getElem_mem h
def uZ (c : Nat → Bool) : Nat → Nat
  | 0 => 0
  | b + 1 => if uZ c b < b then uZ c b else if c b then b else b + 1
theorem nW (c : Nat → Bool) (b : Nat) : uZ c b ≤ b := by
  induction b with
  | zero => simp [uZ]
  | succ b ih => unfold uZ; split <;> (try split) <;> omega
theorem fstS_no (c : Nat → Bool) (b : Nat) : ∀ j, j < uZ c b → c j = false := by
  induction b with
  | zero => intro j h; simp [uZ] at h
  | succ b ih =>
    intro j h
    have hle := nW c b
    unfold uZ at h
    split at h
    · exact ih j h
    · have e : uZ c b = b := by omega
      split at h
      · exact ih j (by omega)
      · rename_i hc
        by_cases hj : j < b
        · exact ih j (by omega)
        · have : j = b := by omega
          subst this
          simpa using hc
theorem fstS_yes (c : Nat → Bool) (b : Nat) : uZ c b < b → c (uZ c b) = true := by
  induction b with
  | zero => intro h; simp [uZ] at h
  | succ b ih =>
    intro h
    have hle := nW c b
    unfold uZ at h ⊢
    split
    · rename_i h1; exact ih h1
    · rename_i h1
      rw [if_neg h1] at h
      split
      · assumption
      · rename_i hc; rw [if_neg hc] at h; omega
theorem fstS_eq {c : Nat → Bool} {b s : Nat} (hs : s < b) (hc : c s = true) (hn : ∀ j, j < s → c j = false) : uZ c b = s := by
  have h1 := fstS_no c b
  have hle := nW c b
  rcases Nat.lt_trichotomy (uZ c b) s with h | h | h
  · have := fstS_yes c b (by omega)
    rw [hn _ h] at this
    cases this
  · exact h
  · rw [h1 s h] at hc; cases hc
theorem fstS_none {c : Nat → Bool} {b : Nat} (hn : ∀ j, j < b → c j = false) : uZ c b = b := by
  have hle := nW c b
  rcases Nat.lt_or_ge (uZ c b) b with h | h
  · have := fstS_yes c b h
    rw [hn _ h] at this
    cases this
  · omega
def yC (C : Nat → Nat → Bool) : Nat → Nat
  | 0 => 4
  | e + 1 => uZ (C e) (yC C e)
def wK (C : Nat → Nat → Bool) : Nat → List Tm
  | 0 => []
  | e + 1 => if uZ (C e) (yC C e) < yC C e then wK C e ++ [⟨e, (uZ (C e) (yC C e) : Nat)⟩] else wK C e
theorem belE_le (C : Nat → Nat → Bool) (e : Nat) : yC C e ≤ 4 := by
  induction e with
  | zero => simp [yC]
  | succ e ih => have := nW (C e) (yC C e); unfold yC; omega
theorem lstE_len (C : Nat → Nat → Bool) (e : Nat) : (wK C e).length ≤ e := by
  induction e with
  | zero => simp [wK]
  | succ e ih => unfold wK; split <;> (try simp) <;> omega
set_option maxRecDepth 100000 in
set_option maxHeartbeats 4000000 in
theorem pleast_any (C : Nat → Nat → Bool) (arr : Array Value) (w : World) (hs : arr.size = 24) (hC : ∀ e s, e < 6 → s < 4 → arr[e * 4 + s]? = some (.bool (C e s))) :
    Calls Try.prog 119 #[.agg arr] w fun en w' => ∃ v, en = .returned v ∧ OwnT w w' v (wK C 6) ∧ Bw w w' := by
  go_enter Try.func119, Try.ntmps119
  go_wp2_with fail
  obtain ⟨w0, hw0⟩ : ∃ w0, w.alloc (.cells arr 192) = w0 := ⟨_, rfl⟩
  rw [hw0]
  obtain ⟨hb0, hB0⟩ : w0.heap[w.heap.size]? = some (.cells arr 192 (0, 0)) ∧ Bw w w0 := by
    rw [← hw0]; exact ⟨heap_alloc_new w _, (by repeat first|exact br _|assumption|apply bd|apply bn|apply ba|refine bt ?_ (by assumption))⟩
  clear hw0
  obtain ⟨cb, hcb⟩ : ∃ cb, w.heap.size = cb := ⟨_, rfl⟩
  rw [hcb] at hb0
  rw [hcb]
  clear hcb
  have Hb0 := qJ hb0
  have HC := qJ hC
  clear hb0 hC
  go_loopw [3, 4, 5] (fun v b i wr => ∃ e : Nat, e ≤ 6 ∧ i = .int .i64 e ∧ b = .int .i64 (yC C e : Nat) ∧ OwnT w0 wr v (wK C e) ∧ Bw w0 wr) (fun _ _ i _ => 6 - (intOf i).toNat)
  case atStart => exact ⟨0, Nat.zero_le _, rfl, rfl, OwnT.nil _ _, Bw.refl _⟩
  case round =>
    obtain ⟨e, he, rfl, rfl, hown, hB⟩ := hrel
    rename World => wo
    have hle := lstE_len C e
    have hb4 := belE_le C e
    by_cases hlt : e < 6
    · have hl1 : decide ((e : Int) ≤ 5) = true := by simp; omega
      have Hb1 : Hid (yC C (e + 1) = uZ (C e) (yC C e)) := qJ rfl
      have Hl1 : Hid (wK C (e + 1) = if uZ (C e) (yC C e) < yC C e then wK C e ++ [⟨e, (uZ (C e) (yC C e) : Nat)⟩] else wK C e) := qJ rfl
      have Hno := qJ (@fstS_none (C e) (yC C e))
      have Hyes := qJ (fun (s : Nat) (a : s < yC C e) (b : C e s = true) (c : ∀ j, j < s → C e j = false) => fstS_eq a b c)
      obtain ⟨L1, hL1⟩ : ∃ L1, wK C (e + 1) = L1 := ⟨_, rfl⟩
      obtain ⟨B1, hB1e⟩ : ∃ B1, yC C (e + 1) = B1 := ⟨_, rfl⟩
      rw [hL1] at Hl1
      rw [hB1e] at Hb1
      have HL1 := qJ hL1
      have HB1e := qJ hB1e
      clear hL1 hB1e
      generalize yC C e = B at *
      generalize wK C e = L at *
      generalize uZ (C e) B = F at *
      go_wp2_with fail
      go_loopw [3, 4, 6] (fun v b i wr => ∃ s : Nat, i = .int .i64 s ∧ Bw w0 wr ∧ ((s ≤ B ∧ b = .int .i64 (B : Nat) ∧ OwnT w0 wr v L ∧ ∀ j, j < s → C e j = false) ∨ (1 ≤ s ∧ s ≤ B ∧ b = .int .i64 (B1 : Nat) ∧ B1 + 1 = s ∧ OwnT w0 wr v L1))) (fun _ _ i _ => 5 - (intOf i).toNat)
      case atStart => exact ⟨0, rfl, hB, .inl ⟨Nat.zero_le _, rfl, hown, fun j hj => absurd hj (Nat.not_lt_zero j)⟩⟩
      case round =>
        clear hown hB
        obtain ⟨s, rfl, hB, ⟨hsB, rfl, hown, hnone⟩ | ⟨hs1, hsB, rfl, hB1, hown⟩⟩ := hrel
        · by_cases hsl : s < B
          · have hwb := (Below.block hB _ (Array.getElem?_eq_some_iff.1 (qK Hb0)).1).trans (qK Hb0)
            have hc := qQ hwb ((qK HC) e s hlt (by omega))
            have hcl := (Array.getElem?_eq_some_iff.1 hwb).1
            have he6 : (e : Int) < 6 := by omega
            have hs4 : (s : Int) < 4 := by omega
            have hd1 : decide ((s : Int) < (B : Int)) = true := by simp; omega
            cases hcc : C e s with
            | false =>
              rw [hcc] at hc
              have Hnone : Hid (∀ j, j < s + 1 → C e j = false) := qJ (fun j hj => by
                by_cases h : j < s
                · exact hnone j h
                · have : j = s := by omega
                  subst this; exact hcc)
              clear hnone hcc hwb
              go_wp2_with fail
              go_roundw
              case rel => exact ⟨s + 1, by go_num, hB, .inl ⟨by omega, rfl, hown, qK Hnone⟩⟩
              case measure => simp [intOf]; omega
            | true =>
              rw [hcc] at hc
              have hF := (qK Hyes) s hsl hcc hnone
              have HL : Hid (L1 = L ++ [⟨e, (s : Int)⟩]) := qJ (by rw [qK Hl1, hF, if_pos hsl])
              have HB1 : Hid (B1 = s) := qJ (by rw [qK Hb1, hF])
              clear hF hcc hnone hwb
              go_wp2_with (at_builtin; refine appL _ rfl _ _ _ 75 rfl _ 2 16 Try.infoTime Try.underlying78 rfl (by decide) w0.heap.size _ L.length (vH L) rfl (hown.bw (by repeat first|exact br _|assumption|apply bd|apply bn|apply ba|refine bt ?_ (by assumption))) _ _ (Tm.cells ⟨e, s⟩) rfl rfl (tm_cells (qQ (qN _ _ (by simp)) rfl) (qQ (qN _ _ (by simp)) rfl)) (tm_one _) (by omega) (by omega) (Bw.size (show Bw w0 _ from (by repeat first|exact br _|assumption|apply bd|apply bn|apply ba|refine bt ?_ (by assumption)))) ?_; intro g6 cap6 w6 ho6 hg6 hl6)
              go_roundw
              case rel =>
                refine ⟨s + 1, by go_num, ?_, .inr ⟨by omega, by omega, by rw [qK HB1], by rw [qK HB1], by rw [qK HL]; exact OwnT.snoc ho6⟩⟩
                exact tD (W := w0) (hown.bw (show Bw wr (wr.alloc (.cells #[.int .i64 (e : Int), .int .i64 (s : Int)] 75)) from (by repeat first|exact br _|assumption|apply bd|apply bn|apply ba|refine bt ?_ (by assumption)))) hg6 (hB.alloc _) (Nat.le_refl _)
              case measure => simp [intOf]; omega
          · have hss : s = B := by omega
            subst hss
            have hF := (qK Hno) hnone
            have HL : Hid (L1 = L) := qJ (by rw [qK Hl1, hF, if_neg (by omega)])
            have HB1 : Hid (B1 = s) := qJ (by rw [qK Hb1, hF])
            have hd1 : decide ((s : Int) < (s : Int)) = false := by simp
            clear hF hnone
            go_wp2_with fail
            go_roundw
            case rel => exact ⟨e + 1, by omega, by go_num, by rw [qK HB1e, qK HB1], by rw [qK HL1, qK HL]; exact hown, hB⟩
            case measure => simp [intOf]; omega
        · have hd1 : decide ((s : Int) < (B1 : Int)) = false := by simp; omega
          have hsn : ¬ s < B1 := by omega
          clear hB1
          go_wp2_with fail
          go_roundw
          case rel => exact ⟨e + 1, by omega, by go_num, by rw [qK HB1e], by rw [qK HL1]; exact hown, hB⟩
          case measure => simp [intOf]; omega
    · have hee : e = 6 := by omega
      subst hee
      go_wp2_with fail
      go_ret
      exact ⟨_, rfl, hown.weaken hB0, hB0.trans hB⟩
end Go.Proofs.Ytfemleimkbjehaa
