import Derived.Test.YtfemleimkbjehaaMean3
namespace Go.Proofs.Ytfemleimkbjehaa
open Go.RowKit

/-- What a Sink gets at a time, as records. -/
def recsAt (n e s : Nat) (l : List Int) : List Nd := l.map fun v => ⟨n, 0, e, s, v⟩
def srtL (l : List Int) : List Int := l.mergeSort (fun a b => decide (a ≤ b))
def recT (ns : List Nd) (gv : List Gv) (n : Nat) (ts : List (Nat × Nat)) : List Nd := ts.flatMap fun t => recsAt n t.1 t.2 (srtL (valS ns gv t.1 t.2 n))
def recN (ns : List Nd) (gv : List Gv) (R : Nat) : Nat → List Nd
  | 0 => []
  | n + 1 => recN ns gv R n ++ (if (ndn ns n).kind == 7 then recT ns gv n (timesUp R 6) else [])
theorem srt_uniq {r l : List Int} (hp : r.Perm l) (hs : r.Pairwise (· ≤ ·)) : r = srtL l := by
  have h1 : (srtL l).Pairwise (· ≤ ·) := by
    have := List.pairwise_mergeSort (le := fun a b : Int => decide (a ≤ b)) (by intro a b c; simp; omega) (by intro a b; simp; omega) l
    simpa [srtL] using this
  exact List.Perm.eq_of_pairwise (fun a b _ _ h1 h2 => Int.le_antisymm h1 h2) hs h1 (hp.trans (List.mergeSort_perm l _).symm)
theorem recsAt_len (n e s : Nat) (l : List Int) : (recsAt n e s l).length = l.length := by simp [recsAt]
theorem srtL_len (l : List Int) : (srtL l).length = l.length := (List.mergeSort_perm l _).length_eq
theorem recT_app (ns : List Nd) (gv : List Gv) (n : Nat) (a b : List (Nat × Nat)) : recT ns gv n (a ++ b) = recT ns gv n a ++ recT ns gv n b := by simp [recT]
theorem recT_one (ns : List Nd) (gv : List Gv) (n e s : Nat) : recT ns gv n [(e, s)] = recsAt n e s (srtL (valS ns gv e s n)) := by simp [recT]
theorem Good.recT_len {ns : List Nd} {r : Int} {q : List Int} (h : Good ns r q) {gv : List Gv} (hg : GvOk ns gv) {n : Nat} (hn : n < ns.length) : ∀ ts : List (Nat × Nat), (∀ t ∈ ts, t.2 ≤ 3) → (recT ns gv n ts).length ≤ ts.length * 81920 := by
  intro ts
  induction ts with
  | nil => intro _; simp [recT]
  | cons t l ih =>
    intro ht
    have h1 := ih fun x hx => ht x (by simp [hx])
    have h2 := h.val_len hg t.1 (ht t (by simp)) hn
    unfold recT at h1 ⊢
    rw [List.flatMap_cons, List.length_append, recsAt_len, srtL_len, List.length_cons]
    omega
set_option maxRecDepth 100000 in
theorem Good.recN_len {ns : List Nd} {r : Int} {q : List Int} (h : Good ns r q) {gv : List Gv} (hg : GvOk ns gv) {R : Nat} (hR : R ≤ 4) : ∀ n, n ≤ ns.length → (recN ns gv R n).length ≤ n * 1966080 := by
  intro n
  induction n with
  | zero => intro _; simp [recN]
  | succ n ih =>
    intro hn
    have h1 := ih (by omega)
    have h2 := h.recT_len hg (n := n) (by omega) (timesUp R 6) (fun t ht => by have := (timesUp_mem ht).2; omega)
    rw [timesUp_len] at h2
    have h3 : 6 * R * 81920 ≤ 1966080 := by omega
    unfold recN
    rw [List.length_append]
    split
    · omega
    · rw [List.length_nil, Nat.add_zero]; exact Nat.le_trans h1 (Nat.mul_le_mul_right _ (Nat.le_succ n))
theorem take_get {α : Type} {l : List α} {j : Nat} {x : α} (h : l[j]? = some x) : l.take (j + 1) = l.take j ++ [x] := by
  have hj := (List.getElem?_eq_some_iff.1 h).1
  rw [List.take_succ_eq_append_getElem hj, (List.getElem?_eq_some_iff.1 h).2]

def OwnR (W w : World) (v : Value) (xs : List Nd) : Prop := w.ownsRow W.heap.size 110 5 v xs.length (nodeCells xs)
theorem OwnR.nil (W w : World) : OwnR W w (.slice none 0 0) [] := World.ownsRow_nil _ _ _ _
theorem OwnR.bw {W a b : World} {v : Value} {ns : List Nd} (h : OwnR W a v ns) (hb : Bw a b) : OwnR W b v ns := ownsRow_bw h fun g hg => Below.block hb g hg
theorem OwnR.weaken {W V a : World} {v : Value} {ns : List Nd} (h : OwnR W a v ns) (hb : Bw V W) : OwnR V a v ns := ownsRow_weaken h hb.size
theorem OwnR.snoc {W w : World} {v : Value} {ns : List Nd} {x : Nd} (h : w.ownsRow W.heap.size 110 5 v (ns.length + 1) (nodeCells ns ++ x.cells)) : OwnR W w v (ns ++ [x]) := by
  unfold OwnR
  rw [nodeCells_snoc, List.length_append]
  exact h
theorem Own.grown {V w w' : World} {v u : Value} {base n size : Nat} {ty : TypeId} {xs : List Value} {ys : List Int} (h : Own V w u ys) (hown : w.ownsRow base ty size v n xs) (hg : w.grownBy w' v.ownBlock) (h2 : 3 ≠ ty) : Own V w' u ys := ownsRow_grown hown hg h h2
theorem cells5 {w : World} {g : Nat} {x : Nd} (h0 : w.cell? ⟨g, 0, none⟩ = some (.int .i64 x.kind)) (h1 : w.cell? ⟨g, 1, none⟩ = some (.int .i64 x.a)) (h2 : w.cell? ⟨g, 2, none⟩ = some (.int .i64 x.b)) (h3 : w.cell? ⟨g, 3, none⟩ = some (.int .i64 x.k)) (h4 : w.cell? ⟨g, 4, none⟩ = some (.int .i64 x.m)) : ∀ j u, x.cells[j]? = some u → w.cell? ⟨g, j, none⟩ = some u := by
  intro j u hj
  unfold Nd.cells at hj
  match j, hj with
  | 0, hj => simp at hj; subst hj; exact h0
  | 1, hj => simp at hj; subst hj; exact h1
  | 2, hj => simp at hj; subst hj; exact h2
  | 3, hj => simp at hj; subst hj; exact h3
  | 4, hj => simp at hj; subst hj; exact h4
theorem ndCells_one (x : Nd) : ∀ u ∈ x.cells, u.oneCell' = true := fun u hu => nodeCells_one [x] u (by simpa [nodeCells] using hu)

set_option maxRecDepth 100000 in
set_option maxHeartbeats 4000000 in
theorem records_any {ns : List Nd} {R : Nat} {q : List Int} (hG : Good ns (R : Int) q) {gv : List Gv} (hgv : GvOk ns gv) (ga va : Option Addr) (gc vc : Nat) (V w : World) (ms : List Mo) (hn : NodesAt w ga ns) (hM : MosAt V w (.slice va ms.length vc) ns.length ms) (hO : MosOk ns gv ms (timesUp R 6)) (hR4 : R ≤ 4) :
    Calls Try.prog 104 #[.agg #[.slice ga ns.length gc, .int .i64 (R : Int)], .slice va ms.length vc] w fun en w' =>
      ∃ v, en = .returned v ∧ OwnR w w' v (recN ns gv R ns.length) ∧ Bw w w' := by
  have hl := wfB_len hG.wf
  have Hln : Hid (∀ k, k ≤ ns.length → (recN ns gv R k).length ≤ k * 1966080) := hide (fun k hk => hG.recN_len hgv hR4 k hk)
  have Hlt : Hid (∀ n j, n < ns.length → (recT ns gv n ((timesUp R 6).take j)).length ≤ 1966080) := hide (by
    intro n j hn
    have h1 := hG.recT_len hgv hn ((timesUp R 6).take j) (fun t ht => by have := (timesUp_mem (List.mem_of_mem_take ht)).2; omega)
    have h2 : ((timesUp R 6).take j).length ≤ 24 := by
      rw [List.length_take, timesUp_len]; omega
    omega)
  have hml : ms.length ≤ 24 := by rw [hO.len, timesUp_len]; omega
  go_enter Try.func104, Try.ntmps104
  go_wp2_with fail
  obtain ⟨W, hW⟩ : ∃ W, w.alloc (.cells #[.slice ga ns.length gc, .int .i64 (R : Int)] 24) = W := ⟨_, rfl⟩
  rw [hW]
  have hBW : Bw w W := by rw [← hW]; exact (by repeat (first | exact Bw.refl _ | assumption | refine Bw.drew ?_ | refine Bw.drewN ?_ _ | refine Bw.alloc ?_ _ | refine Bw.trans ?_ (by assumption)))
  clear hW
  go_loopw [5, 16] (fun v i wr => ∃ k : Nat, k ≤ ns.length ∧ i = .int .i64 k ∧ OwnR W wr v (recN ns gv R k) ∧ Bw W wr) (fun _ i _ => ns.length - (intOf i).toNat)
  case atStart => exact ⟨0, Nat.zero_le _, rfl, OwnR.nil _ _, Bw.refl _⟩
  case round =>
    obtain ⟨k, hk, rfl, hown, hB⟩ := hrel
    have hBw : Bw w wr := (by repeat (first | exact Bw.refl _ | assumption | refine Bw.drew ?_ | refine Bw.drewN ?_ _ | refine Bw.alloc ?_ _ | refine Bw.trans ?_ (by assumption)))
    by_cases hlt : k < ns.length
    · obtain ⟨b, off, rfl, hb, hc⟩ := (hn.below hBw) k hlt
      obtain ⟨c0, c1, c2, c3, c4⟩ := hc k hlt
      clear hc
      cases h7 : ((ndn ns k).kind == 7) with
      | false =>
        have Hs : Hid (recN ns gv R (k + 1) = recN ns gv R k) := hide (by rw [recN, h7]; simp)
        go_wp2_with fail
        go_roundw
        case rel => exact ⟨k + 1, by omega, by go_num, by rw [unhide Hs]; exact hown.bw (by repeat (first | exact Bw.refl _ | assumption | refine Bw.drew ?_ | refine Bw.drewN ?_ _ | refine Bw.alloc ?_ _ | refine Bw.trans ?_ (by assumption))), (by repeat (first | exact Bw.refl _ | assumption | refine Bw.drew ?_ | refine Bw.drewN ?_ _ | refine Bw.alloc ?_ _ | refine Bw.trans ?_ (by assumption)))⟩
        case measure => simp [intOf]; omega
      | true =>
        have Hs : Hid (recN ns gv R (k + 1) = recN ns gv R k ++ recT ns gv k ((timesUp R 6).take (timesUp R 6).length)) := hide (by rw [recN, h7, List.take_length]; simp)
        have Hl1 := hide ((unhide Hln) k (by omega))
        have h7n : ((ndn ns k).kind != 7) = false := by simp [bne, h7]
        clear h7
        go_wp2_with fail
        clear c0 c1 c2 c3 c4
        rename World => w1
        go_loopw [5, 26] (fun v i wi => ∃ j : Nat, j ≤ ms.length ∧ i = .int .i64 j ∧ OwnR W wi v (recN ns gv R k ++ recT ns gv k ((timesUp R 6).take j)) ∧ Bw W wi) (fun _ i _ => ms.length - (intOf i).toNat)
        case atStart => exact ⟨0, Nat.zero_le _, rfl, by simp only [List.take_zero]; rw [show recT ns gv k [] = [] from rfl, List.append_nil]; exact hown.bw (by repeat (first | exact Bw.refl _ | assumption | refine Bw.drew ?_ | refine Bw.drewN ?_ _ | refine Bw.alloc ?_ _ | refine Bw.trans ?_ (by assumption))), (by repeat (first | exact Bw.refl _ | assumption | refine Bw.drew ?_ | refine Bw.drewN ?_ _ | refine Bw.alloc ?_ _ | refine Bw.trans ?_ (by assumption)))⟩
        case round =>
          obtain ⟨j, hj, rfl, hown2, hB2⟩ := hrel
          have hBw2 : Bw w wr := (by repeat (first | exact Bw.refl _ | assumption | refine Bw.drew ?_ | refine Bw.drewN ?_ _ | refine Bw.alloc ?_ _ | refine Bw.trans ?_ (by assumption)))
          by_cases hlt2 : j < ms.length
          · obtain ⟨_, g, m, rfl, hg, hm, d0, d1, d2, hrow⟩ := (hM.bw hBw2).get hlt2
            have Hlt2 := hide ((unhide Hlt) k j hlt)
            have Hti : Hid ((timesUp R 6).take (j + 1) = (timesUp R 6).take j ++ [(m.e, m.s)]) := hide (take_get (by rw [← hO.1, List.getElem?_map, hm]; rfl))
            have hms : (m.e, m.s) ∈ timesUp R 6 := by rw [← hO.1]; exact List.mem_map.2 ⟨m, List.mem_of_getElem? hm, rfl⟩
            have hs3 : m.s ≤ 3 := by have := (timesUp_mem hms).2; simp at this; omega
            have Hperm := hide (hO.2 m (List.mem_of_getElem? hm) k hlt)
            have HvL := hide (hG.val_len hgv m.e hs3 hlt)
            have Hfl : Hid ((m.F k).length ≤ 81920) := hide (by rw [(unhide Hperm).length_eq]; exact unhide HvL)
            clear hm hms hs3
            obtain ⟨me, mes, mg, mF⟩ := m
            simp only at *
            go_wp2_with fail
            refine (listOf_any V mg ns.length _ mF k _ (hrow.bw (by repeat (first | exact Bw.refl _ | assumption | refine Bw.drew ?_ | refine Bw.drewN ?_ _ | refine Bw.alloc ?_ _ | refine Bw.trans ?_ (by assumption)))) hlt (by omega)).mono ?_
            rintro en w2 ⟨la, lc, rfl, ho, hlc, rfl⟩
            go_wp2_with fail
            refine (sorted_any _ (mF k) la lc _ (Nat.le_refl _) ho.ints.1 (Nat.le_trans (unhide Hfl) (by omega)) hlc).mono ?_
            rintro en w2 ⟨v2, r, rfl, ho2, hp2, hs2, hb2⟩
            obtain ⟨ra, rc, rfl, hrc⟩ := ho2.slice
            have Hr : Hid (r = srtL (valS ns gv me mes k)) := hide (srt_uniq (hp2.trans (unhide Hperm)) hs2)
            have hrl : r.length ≤ 81920 := by rw [hp2.length_eq]; exact unhide Hfl
            have hnb : w2.heap[wr.heap.size]? = some (.cells #[.int .i64 (me : Int), .int .i64 (mes : Int), .slice (some ⟨mg, 0, none⟩) ns.length ns.length] 206) := (Below.block hb2 _ (by simp)).trans (heap_alloc_new wr _)
            have hown3 : OwnR W w2 u5 (recN ns gv R k ++ recT ns gv k ((timesUp R 6).take j)) := hown2.bw (by repeat (first | exact Bw.refl _ | assumption | refine Bw.drew ?_ | refine Bw.drewN ?_ _ | refine Bw.alloc ?_ _ | refine Bw.trans ?_ (by assumption)))
            have hB3 : Bw W w2 := (by repeat (first | exact Bw.refl _ | assumption | refine Bw.drew ?_ | refine Bw.drewN ?_ _ | refine Bw.alloc ?_ _ | refine Bw.trans ?_ (by assumption)))
            have ho3 : Own W w2 (.slice ra r.length rc) r := ho2.weaken (by repeat (first | exact Bw.refl _ | assumption | refine Bw.drew ?_ | refine Bw.drewN ?_ _ | refine Bw.alloc ?_ _ | refine Bw.trans ?_ (by assumption)))
            clear hp2 hs2 ho ho2 hb2 d0 d1 d2 hrow hlc
            have Hbig : Hid ((recN ns gv R k ++ recT ns gv k ((timesUp R 6).take j)).length ≤ 100000000) := hide (by
              have h1 := unhide Hl1
              have h2 := unhide Hlt2
              have h3 : k * 1966080 ≤ 8 * 1966080 := Nat.mul_le_mul_right _ (by omega)
              rw [List.length_append]; omega)
            obtain ⟨L, hL⟩ : ∃ L, recN ns gv R k ++ recT ns gv k ((timesUp R 6).take j) = L := ⟨_, rfl⟩
            rw [hL] at hown2 hown3 Hbig
            have HL := hide hL.symm
            clear hL
            go_wp2_with fail
            have Hrec : Hid (∀ i, i < r.length → recsAt k me mes (r.take (i + 1)) = recsAt k me mes (r.take i) ++ [⟨k, 0, me, mes, nth r i⟩]) := hide (fun i hi => by
              rw [take_nth hi]; simp [recsAt])
            have Hrl : Hid (∀ i, (recsAt k me mes (r.take i)).length ≤ 81920) := hide (fun i => by rw [recsAt_len, List.length_take]; omega)
            go_loopw [5, 38] (fun v i wi => ∃ j : Nat, j ≤ r.length ∧ i = .int .i64 j ∧ OwnR W wi v (L ++ recsAt k me mes (r.take j)) ∧ Own W wi (.slice ra r.length rc) r ∧ wi.heap[wr.heap.size]? = some (.cells #[.int .i64 (me : Int), .int .i64 (mes : Int), .slice (some ⟨mg, 0, none⟩) ns.length ns.length] 206) ∧ Bw W wi) (fun _ i _ => r.length - (intOf i).toNat)
            case atStart => exact ⟨0, Nat.zero_le _, rfl, by rw [List.take_zero, show recsAt k me mes [] = [] from rfl, List.append_nil]; exact hown3, ho3, hnb, hB3⟩
            case round =>
              obtain ⟨i, hi, rfl, hown4, ho4, hnb4, hB4⟩ := hrel
              rename World => w5
              clear hown3 ho3 hnb hB3
              by_cases hlt3 : i < r.length
              · obtain ⟨b5, off5, rfl, hb5, hc5⟩ := ho4.ints.1 i hlt3
                have hc6 := hc5 i hlt3
                clear hc5
                have z0 := cell_of_block (o := 0) hnb4 rfl
                have z1 := cell_of_block (o := 1) hnb4 rfl
                have Hbig2 : Hid ((L ++ recsAt k me mes (r.take i)).length + 1 ≤ 1000000000) := hide (by
                  have h1 := unhide Hbig
                  have h2 := (unhide Hrl) i
                  rw [List.length_append]; omega)
                have Hnx := hide ((unhide Hrec) i hlt3)
                generalize recsAt k me mes (r.take i) = L2 at *
                generalize nth r i = x at *
                go_wp2_with (at_builtin; refine appT _ rfl _ _ _ 110 rfl _ 5 40 Try.infoRecord Try.underlying52 rfl (by decide) W.heap.size _ (L ++ L2).length (nodeCells (L ++ L2)) rfl (hown4.bw (by repeat (first | exact Bw.refl _ | assumption | refine Bw.drew ?_ | refine Bw.drewN ?_ _ | refine Bw.alloc ?_ _ | refine Bw.trans ?_ (by assumption)))) _ _ (Nd.cells ⟨k, 0, me, mes, x⟩) rfl rfl (cells5 (by simp) (by simp) (by simp) (by simp) (by simp)) (ndCells_one _) (unhide Hbig2) (by omega) (Bw.size (by repeat (first | exact Bw.refl _ | assumption | refine Bw.drew ?_ | refine Bw.drewN ?_ _ | refine Bw.alloc ?_ _ | refine Bw.trans ?_ (by assumption)))) ?_; intro v' w6 hown5 hgr5)
                go_roundw
                case rel => exact ⟨i + 1, by omega, by go_num, by rw [unhide Hnx, ← List.append_assoc]; exact OwnR.snoc hown5, (ho4.bw (by repeat (first | exact Bw.refl _ | assumption | refine Bw.drew ?_ | refine Bw.drewN ?_ _ | refine Bw.alloc ?_ _ | refine Bw.trans ?_ (by assumption)))).grown (hown4.bw (by repeat (first | exact Bw.refl _ | assumption | refine Bw.drew ?_ | refine Bw.drewN ?_ _ | refine Bw.alloc ?_ _ | refine Bw.trans ?_ (by assumption)))) hgr5 (by decide), grown_block (hown4.bw (by repeat (first | exact Bw.refl _ | assumption | refine Bw.drew ?_ | refine Bw.drewN ?_ _ | refine Bw.alloc ?_ _ | refine Bw.trans ?_ (by assumption)))) hgr5 ((Below.heap_alloc _ _ _ (Array.getElem?_eq_some_iff.1 hnb4).1).trans hnb4) (.inl (by decide)), Bw.grown (by repeat (first | exact Bw.refl _ | assumption | refine Bw.drew ?_ | refine Bw.drewN ?_ _ | refine Bw.alloc ?_ _ | refine Bw.trans ?_ (by assumption))) (hown4.bw (by repeat (first | exact Bw.refl _ | assumption | refine Bw.drew ?_ | refine Bw.drewN ?_ _ | refine Bw.alloc ?_ _ | refine Bw.trans ?_ (by assumption)))) hgr5 (Nat.le_refl _)⟩
                case measure => simp [intOf]; omega
              · have hii : i = r.length := by omega
                subst hii
                rw [List.take_length, unhide Hr] at hown4
                go_wp2_with fail
                go_roundw
                case rel => exact ⟨j + 1, by omega, by go_num, by rw [unhide Hti, recT_app, recT_one, ← List.append_assoc]; exact (unhide HL) ▸ hown4, hB4⟩
                case measure => simp [intOf]; omega
          · have hjj : j = ms.length := by omega
            subst hjj
            rw [hO.len] at hown2
            go_wp2_with fail
            go_roundw
            case rel => exact ⟨k + 1, by omega, by go_num, by rw [unhide Hs]; exact hown2, (by repeat (first | exact Bw.refl _ | assumption | refine Bw.drew ?_ | refine Bw.drewN ?_ _ | refine Bw.alloc ?_ _ | refine Bw.trans ?_ (by assumption)))⟩
            case measure => simp [intOf]; omega
    · have hkk : k = ns.length := by omega
      subst hkk
      go_wp2_with fail
      go_ret
      exact ⟨_, rfl, hown.weaken (by repeat (first | exact Bw.refl _ | assumption | refine Bw.drew ?_ | refine Bw.drewN ?_ _ | refine Bw.alloc ?_ _ | refine Bw.trans ?_ (by assumption))), hBw⟩
end Go.Proofs.Ytfemleimkbjehaa
