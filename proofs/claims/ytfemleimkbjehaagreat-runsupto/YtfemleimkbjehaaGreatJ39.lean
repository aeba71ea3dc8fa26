import Derived.Test.YtfemleimkbjehaaGreatJ37
import Derived.Test.YtfemleimkbjehaaGreatJ24
import Derived.Test.YtfemleimkbjehaaGreatJ23
import Derived.Test.YtfemleimkbjehaaGreatJ35
import Derived.Test.YtfemleimkbjehaaGreatJ4
set_option maxRecDepth 1000000
set_option maxHeartbeats 40000000
set_option linter.unusedVariables false
set_option linter.unusedSimpArgs false
namespace Go.Proofs.YtfemleimkbjehaaGreat
open Go.RowKit
theorem Tryz.infoSunk : (Tryz.prog.info? 75).map (fun i => (i.zero, i.size, i.bytes)) = some (some (.agg #[.slice none 0 0, .int .i64 0]), 2, 32) := by kernel_rfl
theorem sameRecL_any (xs : List Nd) (a1 a2 : Option Addr) (c1 c2 : Nat) (w : World) (h1 : NodesAt w a1 xs) (h2 : NodesAt w a2 xs) (hl : xs.length ≤ maxLen) :
    Calls Tryz.prog 42 #[.slice a1 xs.length c1, .slice a2 xs.length c2] w fun e w' => e = .returned (.bool true) ∧ Bw w w' := by
  unfold maxLen at hl
  go_enter Tryz.func42, Tryz.ntmps42
  go_wp2
  go_loopw [5] (fun i wr => ∃ k : Nat, k ≤ xs.length ∧ i = .int .i64 k ∧ Bw w wr) (fun i _ => xs.length - (intOf i).toNat)
  case atStart => exact ⟨0, Nat.zero_le _, rfl, Bw.refl _⟩
  case round =>
    obtain ⟨k, hk, rfl, hB⟩ := hrel
    by_cases hlt : k < xs.length
    · obtain ⟨b, off, rfl, hb, hc⟩ := (h1.below hB) k hlt
      obtain ⟨b', off', rfl, hb', hc'⟩ := (h2.below hB) k hlt
      obtain ⟨d0, d1, d2, d3, d4⟩ := hc k hlt
      obtain ⟨f0, f1, f2, f3, f4⟩ := hc' k hlt
      have hj1 : (0 : Int) ≤ (k : Int) := by omega
      have hj2 : (k : Int) < (xs.length : Int) := by omega
      clear hc hc'
      go_wp2_with fail
      go_quiet (fail)
      go_wp2_with fail
      go_roundw
      case rel => exact ⟨k + 1, by omega, by go_num, (by repeat first|exact br _|assumption|apply bd|apply bn|apply ba|refine bt ?_ (by assumption))⟩
      case measure => simp [intOf]; omega
    · go_wp2
      go_ret
      exact ⟨rfl, hB⟩
theorem nodesAt_own {w : World} {base : Nat} {ty : TypeId} {v : Value} {A : List Nd} (h : w.ownsRow base ty 5 v A.length (qL A)) : NodesAt w (kY v) A := by
  intro i hi
  obtain ⟨g, e, hl, hc⟩ := qB h (by omega)
  refine ⟨g, 0, e, hl, fun j hj => ?_⟩
  have q : ∀ f, f < 5 → ∀ u, (Nd.cells (qT A j))[f]? = some u → w.cell? ⟨g, 0 + j * 5 + f, none⟩ = some u := fun f hf u hu => by
    rw [Nat.zero_add]
    exact hc _ _ ((vL (f := Nd.cells) (d := ⟨0, 0, 0, 0, 0⟩) (fun _ => rfl) A j hj f hf).trans hu)
  exact ⟨q 0 (by omega) _ rfl, q 1 (by omega) _ rfl, q 2 (by omega) _ rfl, q 3 (by omega) _ rfl, q 4 (by omega) _ rfl⟩
theorem LW0.addR {w0 w w4 : World} {K : Nat → Prop} {lb pb rb g' cap : Nat} {x : LX} {cnt : Int} {l : LL} {e : Ent} (h : LW0 w0 K lb pb rb x cnt l) (he : EntOk w0 K 77 xR 5 e) (hel : e.len ≤ 1000000000)
    (ho : w4.ownsRow 0 75 2 (.slice (some ⟨g', 0, none⟩) (l.r.length + 1) cap) (l.r.length + 1) (kC l.r ++ e.cells)) (hg : w.grownBy w4 x.r.ownBlock) (hK : K g') (hb : Bw w0 w) :
    w4.heap[lb]? = some (.cells #[.pointer (some ⟨pb, 0, none⟩), .pointer (some ⟨rb, 0, none⟩), .int .i64 cnt, x.m, x.p, x.t, x.r] 42 (0, 0)) ∧
    LW0 (w4.setCell ⟨lb, 6, none⟩ (.slice (some ⟨g', 0, none⟩) (l.r.length + 1) cap)) K lb pb rb { x with r := .slice (some ⟨g', 0, none⟩) (l.r.length + 1) cap } cnt { l with r := l.r ++ [e] } := by
  have h := h.bw hb
  have he : EntOk w K 77 xR 5 e := OwnsIn.frame he fun b _ hl => Below.block hb b hl
  have hr4 := qW h.r.1 hg h.root (.inl (by decide))
  have fr : ∀ {ty : TypeId} {sz m : Nat} {u : Value} {ys : List Value}, OwnsIn K w ty sz u m ys → ty ≠ 75 → ty ≠ 42 → OwnsIn K (w4.setCell ⟨lb, 6, none⟩ (.slice (some ⟨g', 0, none⟩) (l.r.length + 1) cap)) ty sz u m ys := fun ho' h1 h2 => (ho'.grown h.r.1 hg h1).set hr4 h2
  refine ⟨hr4, (qU hr4).trans rfl, h.kroot, fr h.m (by decide) (by decide), fr h.p (by decide) (by decide), fr h.t (by decide) (by decide), ?_, h.km.map fun _ _ _ h => fr h (by decide) (by decide), h.kp.map fun _ _ _ h => fr h (by decide) (by decide), h.kt.map fun _ _ _ h => fr h (by decide) (by decide), (h.kr.snoc he hel).map fun _ _ _ h => fr h (by decide) (by decide)⟩
  refine ⟨?_, fun b hb => ?_⟩
  · rw [entCells_snoc, List.length_append]
    exact qN hr4 ho (by decide)
  · simp only [Value.ownBlock, Option.some.injEq] at hb
    subst hb
    exact hK
theorem LW0.appR {w w' : World} {K K0 : Nat → Prop} {lb pb rb base n : Nat} {x : LX} {cnt : Int} {l : LL} {gv : Value} {xs : List Value} (h : LW0 w K lb pb rb x cnt l) (hown : w.ownsRow base 77 5 gv n xs) (hg : w.grownBy w' gv.ownBlock) (hkeep : ∀ base' u k ys, w.ownsRow base' 77 5 u k ys → k ≤ n → w'.ownsRow base' 77 5 u k ys)
    (hfam : ∀ i, i < l.r.length → (kV l.r i).len ≤ n ∨ ∀ b, (Value.slice (kV l.r i).a (kV l.r i).len (kV l.r i).cap).ownBlock = some b → K0 b) (hn : ∀ b, gv.ownBlock = some b → ¬ K0 b) : LW0 w' K lb pb rb x cnt l := by
  have fr : ∀ {ty : TypeId} {sz m : Nat} {u : Value} {ys : List Value}, OwnsIn K w ty sz u m ys → ty ≠ 77 → OwnsIn K w' ty sz u m ys := fun ho h1 => ho.grown hown hg h1
  refine ⟨qW hown hg h.root (.inl (by decide)), h.kroot, fr h.m (by decide), fr h.p (by decide), fr h.t (by decide), fr h.r (by decide), h.km.map fun _ _ _ h => fr h (by decide), h.kp.map fun _ _ _ h => fr h (by decide), h.kt.map fun _ _ _ h => fr h (by decide), fun i hi => ?_⟩
  obtain ⟨he, hl⟩ := h.kr i hi
  refine ⟨⟨?_, he.2⟩, hl⟩
  rcases hfam i hi with h1 | h1
  · exact hkeep _ _ _ _ he.1 h1
  · exact kK he.1 fun b hb => hg.block b (World.ownsRow.lt he.1 b hb).2 (fun e => hn b e.symm (h1 b hb))
theorem ovR_set {n : Int} {k : Nat} {ys : List Value} (hk : k * 5 + 5 ≤ ys.length) : ((((((ovL xR n 5 ys k).set (k * 5) (.int .i64 (-77))).set (k * 5 + 1) (.int .i64 0)).set (k * 5 + 2) (.int .i64 n)).set (k * 5 + 3) (.int .i64 0)).set (k * 5 + 4) (.int .i64 0)) = ovL xR n 5 ys (k + 1) := by
  have hX : (xR n).length = 5 := rfl
  have hfl : ∀ j, (jW xR n j).length = j * 5 := fun j => by simp [jW, xR]
  have hlen : (ovL xR n 5 ys k).length = ys.length := by unfold ovL; rw [List.length_append, List.length_drop, hfl]; omega
  apply List.ext_getElem?
  intro p
  rw [yG hX]
  by_cases h1 : p < k * 5
  · rw [List.getElem?_set_ne (by omega), List.getElem?_set_ne (by omega), List.getElem?_set_ne (by omega), List.getElem?_set_ne (by omega), List.getElem?_set_ne (by omega), yG hX, if_pos h1, if_pos (by omega), jL, List.getElem?_append_left (by rw [hfl]; exact h1)]
  · by_cases h2 : p < (k + 1) * 5
    · rw [if_pos h2, jL, List.getElem?_append_right (by rw [hfl]; omega), hfl]
      have : p = k * 5 ∨ p = k * 5 + 1 ∨ p = k * 5 + 2 ∨ p = k * 5 + 3 ∨ p = k * 5 + 4 := by omega
      rcases this with rfl | rfl | rfl | rfl | rfl
      · rw [List.getElem?_set_ne (by omega), List.getElem?_set_ne (by omega), List.getElem?_set_ne (by omega), List.getElem?_set_ne (by omega), List.getElem?_set_self (by (try simp); omega)]; simp [xR]
      · rw [List.getElem?_set_ne (by omega), List.getElem?_set_ne (by omega), List.getElem?_set_ne (by omega), List.getElem?_set_self (by (try simp); omega)]; simp [xR, show k * 5 + 1 - k * 5 = 1 by omega]
      · rw [List.getElem?_set_ne (by omega), List.getElem?_set_ne (by omega), List.getElem?_set_self (by (try simp); omega)]; simp [xR, show k * 5 + 2 - k * 5 = 2 by omega]
      · rw [List.getElem?_set_ne (by omega), List.getElem?_set_self (by (try simp); omega)]; simp [xR, show k * 5 + 3 - k * 5 = 3 by omega]
      · rw [List.getElem?_set_self (by (try simp); omega)]; simp [xR, show k * 5 + 4 - k * 5 = 4 by omega]
    · rw [if_neg h2, List.getElem?_set_ne (by omega), List.getElem?_set_ne (by omega), List.getElem?_set_ne (by omega), List.getElem?_set_ne (by omega), List.getElem?_set_ne (by omega), yG hX, if_neg h1]
theorem nd_cellsR {w : World} {g : Nat} {x : Nd} (h0 : w.cell? ⟨g, 0, none⟩ = some (.int .i64 x.kind)) (h1 : w.cell? ⟨g, 1, none⟩ = some (.int .i64 x.a)) (h2 : w.cell? ⟨g, 2, none⟩ = some (.int .i64 x.b)) (h3 : w.cell? ⟨g, 3, none⟩ = some (.int .i64 x.k)) (h4 : w.cell? ⟨g, 4, none⟩ = some (.int .i64 x.m)) : ∀ j u, x.cells[j]? = some u → w.cell? ⟨g, j, none⟩ = some u := by
  intro j u hj
  unfold Nd.cells at hj
  match j, hj with
  | 0, hj => simp at hj; subst hj; exact h0
  | 1, hj => simp at hj; subst hj; exact h1
  | 2, hj => simp at hj; subst hj; exact h2
  | 3, hj => simp at hj; subst hj; exact h3
  | 4, hj => simp at hj; subst hj; exact h4
theorem louts_any {K : Nat → Prop} {lb pb rb : Nat} {x : LX} {cnt : Int} {l : LL} (A : List Nd) (w : World) (hL : LW w K lb pb rb x cnt l)
    (hp : ∀ w', Bw w w' → Calls Tryz.prog 40 #[.pointer (some ⟨pb, 0, none⟩)] w' fun e w'' => ∃ v, e = .returned v ∧ OwnC w' w'' v A ∧ Bw w' w'')
    (hr : ∀ w', Bw w w' → Calls Tryz.prog 41 #[.pointer (some ⟨rb, 0, none⟩)] w' fun e w'' => ∃ v, e = .returned v ∧ OwnC w' w'' v A ∧ Bw w' w'')
    (hA : A.length ≤ 100000000) (hlm : l.r.length + 4 ≤ 900000000) (hcn : 0 ≤ cnt ∧ cnt ≤ 1000000000000) :
    Calls Tryz.prog 21 #[.pointer (some ⟨lb, 0, none⟩)] w fun e w' => e = .returned (.bool true) ∧ ∃ x' m', LW w' (fun b => K b ∨ (w.heap.size ≤ b ∧ b < w'.heap.size)) lb pb rb x' (cnt + 1) { l with r := m' } ∧ m'.length = l.r.length + 4 ∧ Chg K w w' := by
  have HL := qJ hL
  have Hp := qJ hp
  have Hr := qJ hr
  have klt := hL.klt
  have c0 := qQ (o := 0) hL.root rfl
  have c1 := qQ (o := 1) hL.root rfl
  have cl := (Array.getElem?_eq_some_iff.1 hL.root).1
  clear hL hp hr
  go_enter Tryz.func21, Tryz.ntmps21
  go_wp2_with fail
  refine ((qK Hp) _ (Bw.refl _)).mono ?_
  rintro e1 w1 ⟨v, rfl, hov, hb1⟩
  obtain ⟨va, vc, hve⟩ := hov.val
  subst hve
  have t1 := ((qS hb1).1 _ 1 cl).trans c1
  have tl := Nat.lt_of_lt_of_le cl hb1.size
  clear c0 c1
  go_wp2_with fail
  refine ((qK Hr) _ hb1).mono ?_
  rintro e2 w2 ⟨u, rfl, hou, hb2⟩
  obtain ⟨ua, uc, hue⟩ := hou.val
  subst hue
  have n1 : NodesAt w2 va A := nodesAt_own (hov.bw hb2)
  have n2 : NodesAt w2 ua A := nodesAt_own hou
  clear t1 tl
  go_wp2_with fail
  refine (sameRecL_any A va ua vc uc w2 n1 n2 (by unfold maxLen; omega)).mono ?_
  rintro e3 w3 ⟨rfl, hb3⟩
  have hB03 : Bw w w3 := hb1.trans (hb2.trans hb3)
  have hL3 := (qK HL).bw hB03
  have r2 := qQ (o := 2) hL3.root rfl
  have r2f := qZ (o := 2) hL3.root
  have r2l := (Array.getElem?_eq_some_iff.1 hL3.root).1
  have HL4 := qJ (hL3.setCnt (c := cnt + 1))
  have hov3 : OwnC w w3 (.slice va A.length vc) A := hov.bw (hb2.trans hb3)
  have hov4 := vX hov3 hL3.root (qP w3 lb 2 (.int .i64 (cnt + 1))) (by decide)
  clear hL3 hou hov n1 n2
  go_wp2_with fail
  have hz03 := hB03.size
  obtain ⟨w5, hw5⟩ : ∃ w5, (w3.setCell ⟨lb, 2, none⟩ (.int .i64 (cnt + 1))).alloc (.cells #[.int .i64 (-77), .int .i64 0, .int .i64 (cnt + 1), .int .i64 0, .int .i64 0] 77) = w5 := ⟨_, rfl⟩
  have hszs : (w3.setCell ⟨lb, 2, none⟩ (.int .i64 (cnt + 1))).heap.size = w3.heap.size := by simp
  have hb5 : Bw (w3.setCell ⟨lb, 2, none⟩ (.int .i64 (cnt + 1))) w5 := by rw [← hw5]; exact (by repeat first|exact br _|assumption|apply bd|apply bn|apply ba|refine bt ?_ (by assumption))
  have hx5 : w5.heap[w3.heap.size]? = some (.cells #[.int .i64 (-77), .int .i64 0, .int .i64 (cnt + 1), .int .i64 0, .int .i64 0] 77 (0, 0)) := by rw [← hw5, ← hszs]; exact heap_alloc_new _ _
  have hL5 := (qK HL4).bw hb5
  have hov5 := qX hov4 fun g hg => Below.block hb5 g hg
  have hC5 : Chg K w w5 := ((Chg.bw (S := K) hB03).trans (qP w3 lb 2 (.int .i64 (cnt + 1))) (fun b h => .inl (h ▸ (qK HL).kroot))).trans (Chg.bw (S := K) hb5) (fun _ h => .inl h)
  have hgx : ∀ b, (Value.slice va A.length vc).ownBlock = some b → w.heap.size ≤ b ∧ b < w3.heap.size := fun b hb => World.ownsRow.lt hov3 b hb
  rw [hw5]
  obtain ⟨xb, hxb⟩ : ∃ xb, w3.heap.size = xb := ⟨_, rfl⟩
  rw [hxb] at hx5 hgx hz03
  rw [hxb]
  obtain ⟨nn, hnn⟩ : ∃ nn, cnt + 1 = nn := ⟨_, rfl⟩
  have hnb : 0 ≤ nn ∧ nn ≤ 1000000000001 := by omega
  rw [hnn] at hx5 hL5
  rw [hnn]
  have Hnn := qJ hnn
  clear hw5 hxb hnn hov4 hov3 HL4 hb5 hszs r2 r2f r2l hb3 hb2 hb1
  have hgl3 := zT A
  go_loopw [7] (fun i wr => ∃ k : Nat, k ≤ A.length ∧ i = .int .i64 k ∧ LW wr K lb pb rb x nn l ∧ wr.ownsRow w.heap.size 77 5 (.slice va A.length vc) A.length (ovL xR nn 5 (qL A) k) ∧ wr.heap[xb]? = some (.cells #[.int .i64 (-77), .int .i64 0, .int .i64 nn, .int .i64 0, .int .i64 0] 77 (0, 0)) ∧ Chg K w wr) (fun i _ => A.length - (intOf i).toNat)
  case atStart => exact ⟨0, Nat.zero_le _, rfl, hL5, by rw [ovL_zero]; exact hov5, hx5, hC5⟩
  case round =>
    clear hL5 hov5 hx5 hC5
    obtain ⟨k, hk, rfl, hLr, hor, hxr, hCr⟩ := hrel
    rename World => wr
    have x0 := qQ (o := 0) hxr rfl
    have x1 := qQ (o := 1) hxr rfl
    have x2 := qQ (o := 2) hxr rfl
    have x3 := qQ (o := 3) hxr rfl
    have x4 := qQ (o := 4) hxr rfl
    have xl := (Array.getElem?_eq_some_iff.1 hxr).1
    by_cases hlt : k < A.length
    · obtain ⟨g, eg, hgl, hcc⟩ := qB hor (by omega)
      simp only [kY] at eg
      subst eg
      obtain ⟨hg1, hg2⟩ := hgx g rfl
      have hol : (ovL xR nn 5 (qL A) k).length = A.length * 5 := by
        unfold ovL; rw [List.length_append, List.length_drop, hgl3]; simp [jW, xR]; omega
      have ex : ∀ q, q < A.length * 5 → ∃ u, wr.cell? ⟨g, q, none⟩ = some u := fun q hq => ⟨_, hcc q _ (List.getElem?_eq_getElem (by omega))⟩
      obtain ⟨u0, z0⟩ := ex (k * 5) (by omega)
      obtain ⟨u1, z1⟩ := ex (k * 5 + 1) (by omega)
      obtain ⟨u2, z2⟩ := ex (k * 5 + 2) (by omega)
      obtain ⟨u3, z3⟩ := ex (k * 5 + 3) (by omega)
      obtain ⟨u4, z4⟩ := ex (k * 5 + 4) (by omega)
      obtain ⟨cur, hcur⟩ := jZ hor (b := g) rfl
      have zf := fun q => qZ (o := q) hcur
      have hk1 : (k : Int) < (A.length : Int) := by omega
      have hgx2 : ¬ xb = g := by omega
      have hnK : ∀ b, K b → ¬ b = g := fun b hb e => by have := klt b hb; omega
      have Hrest := qJ (⟨hLr, hor, hxr, hCr⟩ : LW wr K lb pb rb x nn l ∧ wr.ownsRow w.heap.size 77 5 (.slice (some ⟨g, 0, none⟩) A.length vc) A.length (ovL xR nn 5 (qL A) k) ∧ wr.heap[xb]? = some (.cells #[.int .i64 (-77), .int .i64 0, .int .i64 nn, .int .i64 0, .int .i64 0] 77 (0, 0)) ∧ Chg K w wr)
      clear hLr hor hxr hCr hcc hcur ex
      go_wp2_with fail
      go_roundw
      case rel =>
        obtain ⟨hLr, hor, hxr, hCr⟩ := qK Hrest
        have hc3 : Chg (fun b => b = g) wr (((((wr.setCell ⟨g, k * 5, none⟩ (.int .i64 (-77))).setCell ⟨g, k * 5 + 1, none⟩ (.int .i64 0)).setCell ⟨g, k * 5 + 2, none⟩ (.int .i64 nn)).setCell ⟨g, k * 5 + 3, none⟩ (.int .i64 0)).setCell ⟨g, k * 5 + 4, none⟩ (.int .i64 0)) := (((((qP _ _ _ _).trans (qP _ _ _ _) (fun _ h => .inl h)).trans (qP _ _ _ _) (fun _ h => .inl h)).trans (qP _ _ _ _) (fun _ h => .inl h)).trans (qP _ _ _ _) (fun _ h => .inl h))
        refine ⟨k + 1, by omega, by go_num, hLr.other hc3 hnK, ?_, (hc3.block xb xl hgx2).trans hxr, hCr.trans hc3 (fun b h => .inr (h ▸ hg1))⟩
        rw [← ovR_set (by omega)]
        exact (kP (kP (kP (kP (kP hor (by (try simp); omega)) (by (try simp); omega)) (by (try simp); omega)) (by (try simp); omega)) (by (try simp); omega))
      case measure => simp [intOf]; omega
    · have hkk : k = A.length := by omega
      subst hkk
      rw [ovL_all (by omega)] at hor
      obtain ⟨ma, mc, hme⟩ : ∃ ma mc, x.r = .slice ma l.r.length mc := ⟨_, _, qV hLr.r.1⟩
      have hroot := hLr.root
      rw [hme] at hroot
      have r3 := qQ (o := 6) hroot rfl
      have r2 := qQ (o := 2) hroot rfl
      have rl := (Array.getElem?_eq_some_iff.1 hroot).1
      have Hfam := qJ (fun i (hi : i < l.r.length) => (.inr fun b hb => (hLr.kr i hi).1.2 b hb : (kV l.r i).len ≤ A.length ∨ ∀ b, (Value.slice (kV l.r i).a (kV l.r i).len (kV l.r i).cap).ownBlock = some b → K b))
      have HL0 := qJ (hLr.to0 w.heap.size)
      have Hor := qJ hor
      have Hxr := qJ hxr
      have Hme := qJ hme
      have hzr := hCr.size
      clear hLr hor hxr hroot hme x0 x1 x2 x3 x4
      go_wp2_with fail
      go_region_law (refine yT rfl _ _ _ 75 rfl _ 2 32 Tryz.infoSunk Tryz.underlying40 rfl (by decide) 0 (.slice ma l.r.length mc) l.r.length (kC l.r) rfl (qX ((qK Hme) ▸ (qK HL0).r.1) fun g hg => Below.block (show Bw wr _ from (by repeat first|exact br _|assumption|apply bd|apply bn|apply ba|refine bt ?_ (by assumption))) g hg) _ _ (Ent.cells ⟨va, A.length, vc, nn⟩) rfl rfl (xD (qQ (qY _ _ (by simp)) rfl) (qQ (qY _ _ (by simp)) rfl)) (one2 _) (by omega) (by omega) (Nat.zero_le _) ?_; intro g' cap w7 ho7 hg7 hl7; have Hadd := qJ ((qK HL0).addR (e := ⟨va, A.length, vc, nn⟩) ⟨qM (qK Hor) (Nat.zero_le _), fun b hb => .inr (hgx b hb).1⟩ (by simp only; omega) ho7 ((qK Hme).symm ▸ hg7) (by rcases hl7 with h | h; exact (qK HL0).r.2 _ (by rw [qK Hme]; exact h); exact .inr (by rw [h]; exact Nat.le_trans hzr (Bw.size (show Bw wr _ from (by repeat first|exact br _|assumption|apply bd|apply bn|apply ba|refine bt ?_ (by assumption)))))) (show Bw wr _ from (by repeat first|exact br _|assumption|apply bd|apply bn|apply ba|refine bt ?_ (by assumption)))); have q3 := qQ (o := 6) (qK Hadd).1 rfl; have q3f := qZ (o := 6) (qK Hadd).1; have q3l := (Array.getElem?_eq_some_iff.1 (qK Hadd).1).1)
      all_goals (
        obtain ⟨_, hL8⟩ := qK Hadd
        have hw7 := (qK Hadd).1
        have hbY : Bw wr (wr.alloc (.cells #[.slice va A.length vc, .int .i64 nn] 75)).drew := (by repeat first|exact br _|assumption|apply bd|apply bn|apply ba|refine bt ?_ (by assumption))
        have hm7 := qX ((qK Hme) ▸ (qK HL0).r.1) fun g hg => Below.block hbY g hg
        have hor8 := qN (k := 6) (u := .slice (some ⟨g', 0, none⟩) (l.r.length + 1) cap) hw7 (kQ hm7 hg7 (qX (qK Hor) fun g hg => Below.block hbY g hg) (by decide)) (by decide)
        have hxr8 := yZ (k := 6) (u := .slice (some ⟨g', 0, none⟩) (l.r.length + 1) cap) hw7 (qW hm7 hg7 ((Below.block hbY _ xl).trans (qK Hxr)) (.inl (by decide))) (by decide)
        have hC8 : Chg K w (w7.setCell ⟨lb, 6, none⟩ (.slice (some ⟨g', 0, none⟩) (l.r.length + 1) cap)) := by
          have k1 : Chg K w (wr.alloc (.cells #[.slice va A.length vc, .int .i64 nn] 75)).drew := hCr.trans (Chg.bw (S := K) hbY) (fun _ h => .inl h)
          have k2 : Chg (fun b => (Value.slice ma l.r.length mc).ownBlock = some b) (wr.alloc (.cells #[.slice va A.length vc, .int .i64 nn] 75)).drew w7 := ⟨hg7.os, hg7.tape, hg7.output, hg7.size, fun i hi hn => hg7.block i hi (fun e => hn e.symm)⟩
          exact (k1.trans k2 (fun b hb => (qK HL0).r.2 b (by rw [qK Hme]; exact hb))).trans (qP _ _ _ _) (fun b h => (qK HL0).kroot.imp (fun hk => h ▸ hk) (fun hk => h ▸ hk))
        obtain ⟨w8, hw8⟩ : ∃ w8, w7.setCell ⟨lb, 6, none⟩ (.slice (some ⟨g', 0, none⟩) (l.r.length + 1) cap) = w8 := ⟨_, rfl⟩
        rw [hw8] at hL8 hor8 hxr8 hC8
        simp only [hw8]
        clear hw8 hw7 hm7 Hadd q3 q3f q3l ho7 hg7 hl7 hbY
        have Hfam8 := qJ (fam_snoc (e := ⟨va, A.length, vc, nn⟩) (qK Hfam) (Nat.le_refl _))
        go_wp2_with fail
        go_loopw [8, 9] (fun gv i wr => ∃ (j : Nat) (ga : Option Addr) (gc : Nat) (x' : LX) (m' : List Ent), j ≤ 3 ∧ i = .int .i64 j ∧ gv = .slice ga (A.length + j) gc ∧ LW0 wr (fun b => K b ∨ w.heap.size ≤ b) lb pb rb x' nn { l with r := m' } ∧ m'.length = l.r.length + 1 + j ∧ wr.ownsRow w.heap.size 77 5 (.slice ga (A.length + j) gc) (A.length + j) (jW xR nn (A.length + j)) ∧ wr.heap[xb]? = some (.cells #[.int .i64 (-77), .int .i64 0, .int .i64 nn, .int .i64 0, .int .i64 0] 77 (0, 0)) ∧ Chg K w wr ∧ (∀ b, (Value.slice ga (A.length + j) gc).ownBlock = some b → b ≠ xb) ∧ ∀ i, i < m'.length → (kV m' i).len ≤ A.length + j ∨ ∀ b, (Value.slice (kV m' i).a (kV m' i).len (kV m' i).cap).ownBlock = some b → K b) (fun _ i _ => 3 - (intOf i).toNat)
        case atStart => exact ⟨0, va, vc, _, _, by omega, rfl, rfl, hL8, by simp, hor8, hxr8, hC8, fun b hb => by have := hgx b hb; omega, qK Hfam8⟩
        case round =>
          clear hL8 hor8 hxr8 hC8 Hfam8
          obtain ⟨j, ga, gc, x', m', hj, rfl, rfl, hLr, hml, hor, hxr, hCr, hnx, hfam⟩ := hrel
          rename World => wr
          have Hml := qJ hml
          have hmle : m'.length ≤ 900000000 := by omega
          clear hml
          have x0 := qQ (o := 0) hxr rfl
          have x1 := qQ (o := 1) hxr rfl
          have x2 := qQ (o := 2) hxr rfl
          have x3 := qQ (o := 3) hxr rfl
          have x4 := qQ (o := 4) hxr rfl
          have xl := (Array.getElem?_eq_some_iff.1 hxr).1
          have hzr := hCr.size
          obtain ⟨ma, mc, hme⟩ : ∃ ma mc, x'.r = .slice ma m'.length mc := ⟨_, _, qV hLr.r.1⟩
          by_cases hlt : j < 3
          · have hj1 : decide ((j : Int) < 3) = true := by simp; omega
            have hnK : ∀ b, (Value.slice ga (A.length + j) gc).ownBlock = some b → ¬ K b := fun b hb hk => by have h1 := klt b hk; have h2 := (World.ownsRow.lt hor b hb).1; omega
            have Hm := qJ (⟨hLr, hor, hxr, hCr, hfam⟩ : LW0 wr (fun b => K b ∨ w.heap.size ≤ b) lb pb rb x' nn { l with r := m' } ∧ wr.ownsRow w.heap.size 77 5 (.slice ga (A.length + j) gc) (A.length + j) (jW xR nn (A.length + j)) ∧ wr.heap[xb]? = some (.cells #[.int .i64 (-77), .int .i64 0, .int .i64 nn, .int .i64 0, .int .i64 0] 77 (0, 0)) ∧ Chg K w wr ∧ ∀ i, i < m'.length → (kV m' i).len ≤ A.length + j ∨ ∀ b, (Value.slice (kV m' i).a (kV m' i).len (kV m' i).cap).ownBlock = some b → K b)
            have Hme := qJ hme
            clear hLr hor hxr hCr hfam hme
            go_wp2_with (at_builtin; refine appK _ rfl _ _ _ 77 rfl _ 5 40 Tryz.infoRec Tryz.underlying73 rfl (by decide) w.heap.size (.slice ga (A.length + j) gc) (A.length + j) (jW xR nn (A.length + j)) rfl (qX (qK Hm).2.1 fun g hg => Below.block (show Bw wr _ from (by repeat first|exact br _|assumption|apply bd|apply bn|apply ba|refine bt ?_ (by assumption))) g hg) _ _ (Nd.cells ⟨-77, 0, nn, 0, 0⟩) rfl rfl (nd_cellsR (qQ (qY _ _ (by simp)) rfl) (qQ (qY _ _ (by simp)) rfl) (qQ (qY _ _ (by simp)) rfl) (qQ (qY _ _ (by simp)) rfl) (qQ (qY _ _ (by simp)) rfl)) (nd_one' _) (by omega) (by omega) (Nat.le_trans hzr (Bw.size (show Bw wr _ from (by repeat first|exact br _|assumption|apply bd|apply bn|apply ba|refine bt ?_ (by assumption))))) ?_; intro g9 cap9 w9 ho9 hg9 hl9 hk9)
            obtain ⟨hLr, hor, hxr, hCr, hfam⟩ := qK Hm
            obtain ⟨wY, hwY, hbY⟩ : ∃ wY, wY = wr.alloc (.cells #[.int .i64 (-77), .int .i64 0, .int .i64 nn, .int .i64 0, .int .i64 0] 77) ∧ Bw wr wY := ⟨_, rfl, (by repeat first|exact br _|assumption|apply bd|apply bn|apply ba|refine bt ?_ (by assumption))⟩
            rw [← hwY] at hg9 hl9 hk9
            have horY := qX hor fun g hg => Below.block hbY g hg
            have hL9 := (hLr.bw hbY).appR (K0 := K) horY hg9 hk9 hfam hnK
            have hx9 : w9.heap[xb]? = some (.cells #[.int .i64 (-77), .int .i64 0, .int .i64 nn, .int .i64 0, .int .i64 0] 77 (0, 0)) := (hg9.block xb (Nat.lt_of_lt_of_le xl hbY.size) (fun e => hnx xb e.symm rfl)).trans ((Below.block hbY _ xl).trans hxr)
            have hzY := hbY.size
            have hC9 : Chg K w w9 := by
              have k1 : Chg K w wY := hCr.trans (Chg.bw (S := K) hbY) (fun _ h => .inl h)
              have k2 : Chg (fun b => (Value.slice ga (A.length + j) gc).ownBlock = some b) wY w9 := ⟨hg9.os, hg9.tape, hg9.output, hg9.size, fun i hi hn => hg9.block i hi (fun e => hn e.symm)⟩
              exact k1.trans k2 (fun b hb => .inr (World.ownsRow.lt horY b hb).1)
            have ho9' : w9.ownsRow w.heap.size 77 5 (.slice (some ⟨g9, 0, none⟩) (A.length + j + 1) cap9) (A.length + j + 1) (jW xR nn (A.length + j + 1)) := by rw [jL]; exact ho9
            have hg9n : g9 ≠ xb ∧ w.heap.size ≤ g9 := by
              refine ⟨?_, (World.ownsRow.lt ho9 g9 rfl).1⟩
              rcases hl9 with h | h
              · exact hnx _ h
              · omega
            have hfam9 : ∀ i, i < m'.length → (kV m' i).len ≤ A.length + j + 1 ∨ ∀ b, (Value.slice (kV m' i).a (kV m' i).len (kV m' i).cap).ownBlock = some b → K b := fun i hi => (hfam i hi).imp (fun h => by omega) id
            have hroot := hL9.root
            rw [qK Hme] at hroot
            have r3 := qQ (o := 6) hroot rfl
            have r2 := qQ (o := 2) hroot rfl
            have rl := (Array.getElem?_eq_some_iff.1 hroot).1
            have HL9 := qJ hL9
            have Ho9 := qJ ho9'
            have Hx9 := qJ hx9
            have HC9 := qJ hC9
            have Hfam9 := qJ hfam9
            have hz9 := hC9.size
            clear hLr hor hxr hCr hfam horY hL9 hx9 hC9 ho9' ho9 hg9 hl9 hk9 hwY hbY hzY hroot Hm x0 x1 x2 x3 x4 xl hzr hfam9
            go_region_law (refine yT rfl _ _ _ 75 rfl _ 2 32 Tryz.infoSunk Tryz.underlying40 rfl (by decide) 0 (.slice ma m'.length mc) m'.length (kC m') rfl (qX ((qK Hme) ▸ (qK HL9).r.1) fun g hg => Below.block (show Bw w9 _ from (by repeat first|exact br _|assumption|apply bd|apply bn|apply ba|refine bt ?_ (by assumption))) g hg) _ _ (Ent.cells ⟨some ⟨g9, 0, none⟩, A.length + j + 1, cap9, nn⟩) rfl rfl (xD (qQ (qY _ _ (by simp)) rfl) (qQ (qY _ _ (by simp)) rfl)) (one2 _) (by omega) (by omega) (Nat.zero_le _) ?_; intro g' cap w7 ho7 hg7 hl7; have Hadd := qJ ((qK HL9).addR (e := ⟨some ⟨g9, 0, none⟩, A.length + j + 1, cap9, nn⟩) ⟨qM (qK Ho9) (Nat.zero_le _), fun b hb => .inr (by simp only [Value.ownBlock, Option.some.injEq] at hb; exact hb ▸ hg9n.2)⟩ (by simp only; omega) ho7 ((qK Hme).symm ▸ hg7) (by rcases hl7 with h | h; exact (qK HL9).r.2 _ (by rw [qK Hme]; exact h); exact .inr (by rw [h]; exact Nat.le_trans hz9 (Bw.size (show Bw w9 _ from (by repeat first|exact br _|assumption|apply bd|apply bn|apply ba|refine bt ?_ (by assumption)))))) (show Bw w9 _ from (by repeat first|exact br _|assumption|apply bd|apply bn|apply ba|refine bt ?_ (by assumption)))); have q3 := qQ (o := 6) (qK Hadd).1 rfl; have q3f := qZ (o := 6) (qK Hadd).1; have q3l := (Array.getElem?_eq_some_iff.1 (qK Hadd).1).1)
            all_goals (
              have Hfin := qJ (⟨hg7, qK Hadd⟩ : _ ∧ _)
              go_wp2_with fail
              go_roundw
              case rel =>
                obtain ⟨hg7, hw7, hL8⟩ := qK Hfin
                have hbY : Bw w9 (w9.alloc (.cells #[.slice (some ⟨g9, 0, none⟩) (A.length + j + 1) cap9, .int .i64 nn] 75)).drew := (by repeat first|exact br _|assumption|apply bd|apply bn|apply ba|refine bt ?_ (by assumption))
                have hm7 := qX ((qK Hme) ▸ (qK HL9).r.1) fun g hg => Below.block hbY g hg
                have hor8 := qN (k := 6) (u := .slice (some ⟨g', 0, none⟩) (m'.length + 1) cap) hw7 (kQ hm7 hg7 (qX (qK Ho9) fun g hg => Below.block hbY g hg) (by decide)) (by decide)
                have xl := (Array.getElem?_eq_some_iff.1 (qK Hx9)).1
                have hxr8 := yZ (k := 6) (u := .slice (some ⟨g', 0, none⟩) (m'.length + 1) cap) hw7 (qW hm7 hg7 ((Below.block hbY _ xl).trans (qK Hx9)) (.inl (by decide))) (by decide)
                refine ⟨j + 1, some ⟨g9, 0, none⟩, cap9, _, _, by omega, by go_num, rfl, hL8, by have := qK Hml; simp; omega, hor8, hxr8, ?_, ?_, fam_snoc (e := ⟨some ⟨g9, 0, none⟩, A.length + j + 1, cap9, nn⟩) (qK Hfam9) (Nat.le_refl _)⟩
                · have k1 : Chg K w (w9.alloc (.cells #[.slice (some ⟨g9, 0, none⟩) (A.length + j + 1) cap9, .int .i64 nn] 75)).drew := (qK HC9).trans (Chg.bw (S := K) hbY) (fun _ h => .inl h)
                  have k2 : Chg (fun b => (Value.slice ma m'.length mc).ownBlock = some b) (w9.alloc (.cells #[.slice (some ⟨g9, 0, none⟩) (A.length + j + 1) cap9, .int .i64 nn] 75)).drew w7 := ⟨hg7.os, hg7.tape, hg7.output, hg7.size, fun i hi hn => hg7.block i hi (fun e => hn e.symm)⟩
                  exact (k1.trans k2 (fun b hb => (qK HL9).r.2 b (by rw [qK Hme]; exact hb))).trans (qP _ _ _ _) (fun b h => (qK HL9).kroot.imp (fun hk => h ▸ hk) (fun hk => h ▸ hk))
                · intro b hb
                  simp only [Value.ownBlock, Option.some.injEq] at hb
                  exact hb ▸ hg9n.1
              case measure => simp [intOf]; omega)
          · have hj3 : j = 3 := by omega
            subst hj3
            have HLr := qJ hLr
            have HCr := qJ hCr
            clear hLr hor hxr hCr hfam x0 x1 x2 x3 x4 hnx
            go_wp2_with fail
            go_ret
            have hml := qK Hml
            have hnn := qK Hnn
            subst hnn
            exact ⟨rfl, x', m', (qK HLr).done klt (qK HCr).size ⟨(qK HL).few.1, (qK HL).few.2.1, (qK HL).few.2.2.1, by simp only; omega⟩, by omega, qK HCr⟩)
theorem lpick_any (c n : Int) (w : World) (h1 : -9223372036854775808 ≤ c) (h2 : c ≤ 9223372036854775807) (hn : 0 < n) (hn2 : n ≤ 1000000000) :
    Calls Tryz.prog 46 #[.int .i64 c, .int .i64 n] w fun e w' => e = .returned (.int .i64 (pickB c n)) ∧ w' = w := by
  have hn0 : (n == 0) = false := by simp; omega
  have hnm : ¬ n = -1 := by omega
  by_cases hc : c < 0
  · have Hp : Hid (pickB c n = (-(c + 1)) % n) := qJ (by unfold pickB; rw [if_pos hc])
    go_enter Tryz.func46, Tryz.ntmps46
    go_wp2
    go_ret
    exact ⟨qF (by rw [qK Hp, ← pick_neg (by omega)]), rfl⟩
  · have Hp : Hid (pickB c n = c % n) := qJ (by unfold pickB; rw [if_neg hc])
    go_enter Tryz.func46, Tryz.ntmps46
    go_wp2
    go_ret
    exact ⟨qF (by rw [qK Hp]), rfl⟩
theorem pickB_lt {c n : Int} (hn : 0 < n) : 0 ≤ pickB c n ∧ pickB c n < n := by
  unfold pickB
  split
  · exact ⟨Int.emod_nonneg _ (by omega), Int.emod_lt_of_pos _ hn⟩
  · exact ⟨Int.emod_nonneg _ (by omega), Int.emod_lt_of_pos _ hn⟩
theorem ldoes_any {K Sp Sr : Nat → Prop} {lb pb rb : Nat} {x : LX} {cnt : Int} {ll : LL} {Pp Pr : Int → World → World → Prop} (ok oa ob oc oh : Int) (l : List Ev) (w : World) (hL : LW w K lb pb rb x cnt ll) (ha1 : -9223372036854775808 ≤ oa) (ha2 : oa ≤ 9223372036854775807) (hll : l.length ≤ 1000000000) (hlp : ¬ Sp lb) (hsp : ∀ b, Sp b → b < w.heap.size)
    (hact : ∀ w', Bw w w' → Calls Tryz.prog 23 #[.pointer (some ⟨rb, 0, none⟩)] w' fun e w'' => ∃ v, e = .returned v ∧ OwnE w' w'' v l ∧ Bw w' w'')
    (hp : ∀ k w', -9223372036854775808 ≤ k → k ≤ 9223372036854775807 → Bw w w' → Calls Tryz.prog 47 #[.pointer (some ⟨pb, 0, none⟩), .int .i64 k] w' fun e w'' => e = .returned (.tuple #[Ev.val (yV l k), .int .i64 (doE l k)]) ∧ Chg Sp w' w'' ∧ Pp k w' w'')
    (hr : ∀ k a1 b1 w', -9223372036854775808 ≤ k → k ≤ 9223372036854775807 → Bw w a1 → Chg Sp a1 b1 → Pp k a1 b1 → Bw b1 w' → Calls Tryz.prog 48 #[.pointer (some ⟨rb, 0, none⟩), .int .i64 k] w' fun e w'' => e = .returned (.tuple #[Ev.val (yV l k), .int .i64 (doE l k)]) ∧ Chg Sr w' w'' ∧ Pr k w' w'')
    (hsr : ∀ b, Sr b → b < w.heap.size) (hlr : ¬ Sr lb) :
    Calls Tryz.prog 24 #[.pointer (some ⟨lb, 0, none⟩), .agg #[.int .i64 ok, .int .i64 oa, .int .i64 ob, .int .i64 oc, .int .i64 oh]] w fun e w' => e = .returned (.bool true) ∧ (Bw w w' ∨ ∃ k a1 b1 a2 b2, k ≤ 9223372036854775807 ∧ Bw w a1 ∧ Chg Sp a1 b1 ∧ Pp k a1 b1 ∧ Bw b1 a2 ∧ Chg Sr a2 b2 ∧ Pr k a2 b2 ∧ Bw b2 w') := by
  have Hp := qJ hp
  have Hr := qJ hr
  have Hact := qJ hact
  have c0 := qQ (o := 0) hL.root rfl
  have c1 := qQ (o := 1) hL.root rfl
  have cl := (Array.getElem?_eq_some_iff.1 hL.root).1
  clear hL hp hr hact
  go_enter Tryz.func24, Tryz.ntmps24
  go_wp2_with fail
  · refine ((qK Hact) _ (by repeat first|exact br _|assumption|apply bd|apply bn|apply ba|refine bt ?_ (by assumption))).mono ?_
    rintro e0 w9 ⟨v9, rfl, ho9, hb9⟩
    obtain ⟨a9, k9, hve⟩ := ho9.val
    subst hve
    have hbo := (Below.block hb9 w.heap.size (by simp)).trans (heap_alloc_new w (.cells #[.int .i64 ok, .int .i64 oa, .int .i64 ob, .int .i64 oc, .int .i64 oh] 31))
    have o1 := qQ (o := 1) hbo rfl
    have ol := (Array.getElem?_eq_some_iff.1 hbo).1
    have hB9 : Bw w w9 := (show Bw w (w.alloc (.cells #[.int .i64 ok, .int .i64 oa, .int .i64 ob, .int .i64 oc, .int .i64 oh] 31)) from (by repeat first|exact br _|assumption|apply bd|apply bn|apply ba|refine bt ?_ (by assumption))).trans hb9
    have d0 := ((qS hB9).1 _ 0 cl).trans c0
    have cl9 := Nat.lt_of_lt_of_le cl hB9.size
    clear hbo ho9 Hact
    by_cases hz : l.length = 0
    · have hz1 : ((l.length : Int) == 0) = true := by rw [hz]; rfl
      go_wp2_with fail
      go_ret
      exact ⟨rfl, .inl (hB9.trans (by repeat first|exact br _|assumption|apply bd|apply bn|apply ba|refine bt ?_ (by assumption)))⟩
    · have hz1 : ((l.length : Int) == 0) = false := beq_eq_false_iff_ne.2 (by omega)
      obtain ⟨b1, b2⟩ := pickB_lt (c := oa) (n := (l.length : Int)) (by omega)
      go_wp2_with fail
      refine (lpick_any oa (l.length : Int) _ ha1 ha2 (by omega) (by omega)).mono ?_
      rintro e8 w8 ⟨rfl, h8⟩
      rw [h8]
      clear h8
      have Hpk := qJ (fun w' (h : Bw w w') => (qK Hp) (pickB oa (l.length : Int)) w' (by omega) (by omega) h)
      have Hrk := qJ (fun a1 b1 w' (h1 : Bw w a1) h2 h3 (h4 : Bw b1 w') => (qK Hr) (pickB oa (l.length : Int)) a1 b1 w' (by omega) (by omega) h1 h2 h3 h4)
      generalize yV l (pickB oa (l.length : Int)) = y at Hpk Hrk
      generalize doE l (pickB oa (l.length : Int)) = er at Hpk Hrk
      obtain ⟨yk, yw, yn, yi, ye, yr, yv⟩ := y
      simp only [Ev.val] at Hpk Hrk
      go_wp2_with fail
      refine ((qK Hpk) _ hB9).mono ?_
      rintro e1 w1 ⟨rfl, hc1, hp1⟩
      have hBt : Bw w w9 := hB9
      have hz1 := hc1.size
      have hlt1 : lb < w9.heap.size := Nat.lt_of_lt_of_le cl hBt.size
      have u1 := (World.cell?_of_block (a := ⟨lb, 1, none⟩) (hc1.block lb hlt1 hlp)).trans (((qS hBt).1 _ 1 cl).trans c1)
      have ul := Nat.lt_of_lt_of_le hlt1 hz1
      have hzt := hBt.size
      go_wp2_with fail
      refine ((qK Hrk) _ _ _ hBt hc1 hp1 (by repeat first|exact br _|assumption|apply bd|apply bn|apply ba|refine bt ?_ (by assumption))).mono ?_
      rintro e2 w2 ⟨rfl, hc2, hr2⟩
      have hbx2 := (hc2.block w1.heap.size (by simp) (fun h => by have := hsr _ h; omega)).trans (heap_alloc_new w1 (.cells #[.int .i64 yk, .int .i64 yw, .int .i64 yn, .int .i64 yi, .int .i64 ye, .int .i64 yr, .int .i64 yv] 110))
      have x0 := qQ (o := 0) hbx2 rfl
      have x1 := qQ (o := 1) hbx2 rfl
      have x2 := qQ (o := 2) hbx2 rfl
      have x3 := qQ (o := 3) hbx2 rfl
      have x4 := qQ (o := 4) hbx2 rfl
      have x5 := qQ (o := 5) hbx2 rfl
      have x6 := qQ (o := 6) hbx2 rfl
      have xl := (Array.getElem?_eq_some_iff.1 hbx2).1
      have Hfin := qJ (fun w3 (h3 : Bw w2 w3) => (.inr ⟨(pickB oa (l.length : Int)), _, _, _, _, by omega, hBt, hc1, hp1, (show Bw w1 (w1.alloc (.cells #[.int .i64 yk, .int .i64 yw, .int .i64 yn, .int .i64 yi, .int .i64 ye, .int .i64 yr, .int .i64 yv] 110)) from (by repeat first|exact br _|assumption|apply bd|apply bn|apply ba|refine bt ?_ (by assumption))), hc2, hr2, h3⟩ : Bw w w3 ∨ ∃ k a1 b1 a2 b2, k ≤ 9223372036854775807 ∧ Bw w a1 ∧ Chg Sp a1 b1 ∧ Pp k a1 b1 ∧ Bw b1 a2 ∧ Chg Sr a2 b2 ∧ Pr k a2 b2 ∧ Bw b2 w3))
      clear hbx2 hc1 hc2 hp1 hr2 u1 Hpk Hrk
      go_wp2_with (go_at_call 16; refine (num_any _ _).mono ?_; rintro en wn ⟨rfl, rfl⟩)
      go_ret
      exact ⟨ret_bool (by simp), (qK Hfin) _ (by repeat first|exact br _|assumption|apply bd|apply bn|apply ba|refine bt ?_ (by assumption))⟩
  · have d0 := c0
    have Hpk := qJ (fun w' (h : Bw w w') => (qK Hp) oa w' (by omega) (by omega) h)
    have Hrk := qJ (fun a1 b1 w' (h1 : Bw w a1) h2 h3 (h4 : Bw b1 w') => (qK Hr) oa a1 b1 w' (by omega) (by omega) h1 h2 h3 h4)
    generalize yV l oa = y at Hpk Hrk
    generalize doE l oa = er at Hpk Hrk
    obtain ⟨yk, yw, yn, yi, ye, yr, yv⟩ := y
    simp only [Ev.val] at Hpk Hrk
    go_wp2_with fail
    refine ((qK Hpk) _ (show Bw w (w.alloc (.cells #[.int .i64 ok, .int .i64 oa, .int .i64 ob, .int .i64 oc, .int .i64 oh] 31)) from (by repeat first|exact br _|assumption|apply bd|apply bn|apply ba|refine bt ?_ (by assumption)))).mono ?_
    rintro e1 w1 ⟨rfl, hc1, hp1⟩
    have hBt : Bw w (w.alloc (.cells #[.int .i64 ok, .int .i64 oa, .int .i64 ob, .int .i64 oc, .int .i64 oh] 31)) := (show Bw w (w.alloc (.cells #[.int .i64 ok, .int .i64 oa, .int .i64 ob, .int .i64 oc, .int .i64 oh] 31)) from (by repeat first|exact br _|assumption|apply bd|apply bn|apply ba|refine bt ?_ (by assumption)))
    have hz1 := hc1.size
    have hlt1 : lb < (w.alloc (.cells #[.int .i64 ok, .int .i64 oa, .int .i64 ob, .int .i64 oc, .int .i64 oh] 31)).heap.size := Nat.lt_of_lt_of_le cl hBt.size
    have u1 := (World.cell?_of_block (a := ⟨lb, 1, none⟩) (hc1.block lb hlt1 hlp)).trans (((qS hBt).1 _ 1 cl).trans c1)
    have ul := Nat.lt_of_lt_of_le hlt1 hz1
    have hzt := hBt.size
    go_wp2_with fail
    refine ((qK Hrk) _ _ _ hBt hc1 hp1 (by repeat first|exact br _|assumption|apply bd|apply bn|apply ba|refine bt ?_ (by assumption))).mono ?_
    rintro e2 w2 ⟨rfl, hc2, hr2⟩
    have hbx2 := (hc2.block w1.heap.size (by simp) (fun h => by have := hsr _ h; omega)).trans (heap_alloc_new w1 (.cells #[.int .i64 yk, .int .i64 yw, .int .i64 yn, .int .i64 yi, .int .i64 ye, .int .i64 yr, .int .i64 yv] 110))
    have x0 := qQ (o := 0) hbx2 rfl
    have x1 := qQ (o := 1) hbx2 rfl
    have x2 := qQ (o := 2) hbx2 rfl
    have x3 := qQ (o := 3) hbx2 rfl
    have x4 := qQ (o := 4) hbx2 rfl
    have x5 := qQ (o := 5) hbx2 rfl
    have x6 := qQ (o := 6) hbx2 rfl
    have xl := (Array.getElem?_eq_some_iff.1 hbx2).1
    have Hfin := qJ (fun w3 (h3 : Bw w2 w3) => (.inr ⟨oa, _, _, _, _, by omega, hBt, hc1, hp1, (show Bw w1 (w1.alloc (.cells #[.int .i64 yk, .int .i64 yw, .int .i64 yn, .int .i64 yi, .int .i64 ye, .int .i64 yr, .int .i64 yv] 110)) from (by repeat first|exact br _|assumption|apply bd|apply bn|apply ba|refine bt ?_ (by assumption))), hc2, hr2, h3⟩ : Bw w w3 ∨ ∃ k a1 b1 a2 b2, k ≤ 9223372036854775807 ∧ Bw w a1 ∧ Chg Sp a1 b1 ∧ Pp k a1 b1 ∧ Bw b1 a2 ∧ Chg Sr a2 b2 ∧ Pr k a2 b2 ∧ Bw b2 w3))
    clear hbx2 hc1 hc2 hp1 hr2 u1 Hpk Hrk
    go_wp2_with (go_at_call 16; refine (num_any _ _).mono ?_; rintro en wn ⟨rfl, rfl⟩)
    go_ret
    exact ⟨ret_bool (by simp), (qK Hfin) _ (by repeat first|exact br _|assumption|apply bd|apply bn|apply ba|refine bt ?_ (by assumption))⟩
end Go.Proofs.YtfemleimkbjehaaGreat
