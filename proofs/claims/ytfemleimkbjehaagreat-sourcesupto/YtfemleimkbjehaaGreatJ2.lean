import Derived.Test.YtfemleimkbjehaaGreatJ1
namespace Go.Proofs.YtfemleimkbjehaaGreat
set_option linter.unusedVariables false
set_option linter.unusedSimpArgs false
open Go.RowKit

def preB (x : Nd) : Bool :=
  if x.kind == 0 then (x.a == 0) && (x.b == 0) && (x.k == 0) && (x.m == 0)
  else if x.kind == 1 then (x.b == 0) && (x.m == 0)
  else if x.kind == 2 then (x.b == 0) && decide (1 ≤ x.k) && decide (x.k ≤ 100) && decide (0 ≤ x.m) && decide (x.m < x.k)
  else if x.kind == 3 then (x.k == 0) && (x.m == 0) && !(x.a == x.b)
  else if x.kind == 4 then (x.b == 0) && (x.k == 0) && (x.m == 0)
  else if x.kind == 5 then (x.b == 0) && (x.k == 0) && (x.m == 0)
  else if x.kind == 6 then (x.b == 0) && (x.m == 0) && decide (1 ≤ x.k) && decide (x.k ≤ 8)
  else if x.kind == 7 then (x.b == 0) && (x.k == 0) && (x.m == 0)
  else false
def inB (ns : List Nd) (x : Nd) : Bool := (inputsL x).all (cbtfB ns)

theorem wfNode_eq (ns : List Nd) (x : Nd) : wfNodeB ns x = (preB x && inB ns x) := by
  obtain ⟨kind, a, b, k, m⟩ := x
  by_cases h0 : kind = 0
  · subst h0; rw [Bool.eq_iff_iff]; simp [wfNodeB, preB, inB, inputsL]; omega
  by_cases h3 : kind = 3
  · subst h3; rw [Bool.eq_iff_iff]; simp [wfNodeB, preB, inB, inputsL]
    constructor
    · rintro ⟨h1, h2, ⟨h4, h5⟩, h6⟩; exact ⟨⟨⟨h6, h2⟩, h5⟩, h1, h4⟩
    · rintro ⟨⟨⟨h6, h2⟩, h5⟩, h1, h4⟩; exact ⟨h1, h2, ⟨h4, h5⟩, h6⟩
  by_cases h1 : kind = 1
  · subst h1; rw [Bool.eq_iff_iff]; simp [wfNodeB, preB, inB, inputsL]
    constructor
    · rintro ⟨h1, h2, h3⟩; exact ⟨⟨h2, h3⟩, h1⟩
    · rintro ⟨⟨h2, h3⟩, h1⟩; exact ⟨h1, h2, h3⟩
  by_cases h2 : kind = 2
  · subst h2; rw [Bool.eq_iff_iff]; simp [wfNodeB, preB, inB, inputsL]
    constructor
    · rintro ⟨h1, h2, ⟨⟨h3, h4⟩, h5⟩, h6⟩; exact ⟨⟨⟨⟨⟨h2, h3⟩, h4⟩, h5⟩, h6⟩, h1⟩
    · rintro ⟨⟨⟨⟨⟨h2, h3⟩, h4⟩, h5⟩, h6⟩, h1⟩; exact ⟨h1, h2, ⟨⟨h3, h4⟩, h5⟩, h6⟩
  by_cases h6 : kind = 6
  · subst h6; rw [Bool.eq_iff_iff]; simp [wfNodeB, preB, inB, inputsL]
    constructor
    · rintro ⟨h1, h2, h3, h4, h5⟩; exact ⟨⟨⟨⟨h2, h3⟩, h4⟩, h5⟩, h1⟩
    · rintro ⟨⟨⟨⟨h2, h3⟩, h4⟩, h5⟩, h1⟩; exact ⟨h1, h2, h3, h4, h5⟩
  by_cases h4 : kind = 4
  · subst h4; rw [Bool.eq_iff_iff]; simp [wfNodeB, preB, inB, inputsL]
    constructor
    · rintro ⟨h1, h2, h3, h4⟩; exact ⟨⟨⟨h2, h4⟩, h3⟩, h1⟩
    · rintro ⟨⟨⟨h2, h4⟩, h3⟩, h1⟩; exact ⟨h1, h2, h3, h4⟩
  by_cases h5 : kind = 5
  · subst h5; rw [Bool.eq_iff_iff]; simp [wfNodeB, preB, inB, inputsL]
    constructor
    · rintro ⟨h1, h2, h3, h4⟩; exact ⟨⟨⟨h2, h4⟩, h3⟩, h1⟩
    · rintro ⟨⟨⟨h2, h4⟩, h3⟩, h1⟩; exact ⟨h1, h2, h3, h4⟩
  by_cases h7 : kind = 7
  · subst h7; rw [Bool.eq_iff_iff]; simp [wfNodeB, preB, inB, inputsL]
    constructor
    · rintro ⟨h1, h2, h3, h4⟩; exact ⟨⟨⟨h2, h4⟩, h3⟩, h1⟩
    · rintro ⟨⟨⟨h2, h4⟩, h3⟩, h1⟩; exact ⟨h1, h2, h3, h4⟩
  rw [Bool.eq_iff_iff]; simp [wfNodeB, preB, h0, h1, h2, h3, h4, h5, h6, h7]
theorem wfTo_pre {ns : List Nd} {k : Nat} (hk : k < ns.length) (h : preB (ndn ns k) = false) : wfTo ns ns.length = false :=
  wfTo_false (k := k + 1) (by unfold wfTo; rw [wfNode_eq, h]; simp) _ (by omega)
theorem wfTo_in {ns : List Nd} {k j : Nat} (hk : k < ns.length) (hj : j < (inputsL (ndn ns k)).length) (h : cbtfB ns (nth (inputsL (ndn ns k)) j) = false) : wfTo ns ns.length = false := by
  refine wfTo_false (k := k + 1) ?_ _ (by omega)
  have : inB ns (ndn ns k) = false := by
    cases e : inB ns (ndn ns k) with
    | false => rfl
    | true =>
      unfold inB at e
      rw [List.all_eq_true] at e
      have := e _ (List.getElem_mem hj)
      rw [← nth_lt hj, h] at this
      exact this.symm
  unfold wfTo; rw [wfNode_eq, this]; simp
theorem inB_no {ns : List Nd} {x : Nd} (h : ∃ j, j < (inputsL x).length ∧ cbtfB ns (nth (inputsL x) j) = false) : inB ns x = false := by
  obtain ⟨j, hj, hc⟩ := h
  cases e : inB ns x with
  | false => rfl
  | true =>
    unfold inB at e
    rw [List.all_eq_true] at e
    have := e _ (List.getElem_mem hj)
    rw [← nth_lt hj, hc] at this
    exact this.symm
theorem inB_all {ns : List Nd} {x : Nd} (h : ∀ j, j < (inputsL x).length → cbtfB ns (nth (inputsL x) j) = true) : inB ns x = true := by
  unfold inB
  rw [List.all_eq_true]
  intro n hn
  obtain ⟨j, hj, rfl⟩ := List.getElem_of_mem hn
  rw [← nth_lt hj]; exact h j hj
theorem cbtfB_false_lo {ns : List Nd} {n : Int} (h : n < 0) : cbtfB ns n = false := by simp [cbtfB, isNodeB]; intro; omega
theorem cbtfB_false_hi {ns : List Nd} {n : Int} (h : (ns.length : Int) ≤ n) : cbtfB ns n = false := by simp [cbtfB, isNodeB]; intro; omega
theorem cbtfB_mid {ns : List Nd} {n : Int} (h0 : 0 ≤ n) (h : n < (ns.length : Int)) : cbtfB ns n = !((ndn ns n.toNat).kind == 7) := by simp [cbtfB, isNodeB, h0, h]
theorem preB_out {x : Nd} (h : ¬ (0 ≤ x.kind ∧ x.kind ≤ 7)) : preB x = false := by
  have h0 : x.kind ≠ 0 := by omega
  have h1 : x.kind ≠ 1 := by omega
  have h2 : x.kind ≠ 2 := by omega
  have h3 : x.kind ≠ 3 := by omega
  have h4 : x.kind ≠ 4 := by omega
  have h5 : x.kind ≠ 5 := by omega
  have h6 : x.kind ≠ 6 := by omega
  have h7 : x.kind ≠ 7 := by omega
  simp [preB, h0, h1, h2, h3, h4, h5, h6, h7]
theorem preB_iff (x : Nd) : preB x = true ↔ ((x.kind = 0 ∧ x.a = 0 ∧ x.b = 0 ∧ x.k = 0 ∧ x.m = 0) ∨ (x.kind = 1 ∧ x.b = 0 ∧ x.m = 0) ∨ (x.kind = 2 ∧ x.b = 0 ∧ 1 ≤ x.k ∧ x.k ≤ 100 ∧ 0 ≤ x.m ∧ x.m < x.k) ∨
    (x.kind = 3 ∧ x.k = 0 ∧ x.m = 0 ∧ x.a ≠ x.b) ∨ (x.kind = 4 ∧ x.b = 0 ∧ x.k = 0 ∧ x.m = 0) ∨ (x.kind = 5 ∧ x.b = 0 ∧ x.k = 0 ∧ x.m = 0) ∨ (x.kind = 6 ∧ x.b = 0 ∧ x.m = 0 ∧ 1 ≤ x.k ∧ x.k ≤ 8) ∨ (x.kind = 7 ∧ x.b = 0 ∧ x.k = 0 ∧ x.m = 0)) := by
  by_cases hk : 0 ≤ x.kind ∧ x.kind ≤ 7
  · have h8 : x.kind = 0 ∨ x.kind = 1 ∨ x.kind = 2 ∨ x.kind = 3 ∨ x.kind = 4 ∨ x.kind = 5 ∨ x.kind = 6 ∨ x.kind = 7 := by omega
    rcases h8 with h | h | h | h | h | h | h | h <;> simp [preB, h] <;> omega
  · rw [preB_out hk]; constructor
    · intro h; cases h
    · omega

end Go.Proofs.YtfemleimkbjehaaGreat
namespace Go.Proofs.YtfemleimkbjehaaGreat
set_option linter.unusedVariables false
set_option linter.unusedSimpArgs false
open Go.RowKit

/-- The loops of a code, in the order in which they are met, those within a loop behind it. -/
def loopsOf : Code → List Code
  | .loop c => c :: loopsOf c
  | .seq a b => loopsOf a ++ loopsOf b
  | .block _ c => loopsOf c
  | .scope c => loopsOf c
  | .cond _ a b => loopsOf a ++ loopsOf b
  | _ => []
def loopAt (b : Option Code) (k : Nat) : Code := ((b.map loopsOf).getD []).getD k .skip

set_option maxRecDepth 1000000 in
set_option maxHeartbeats 4000000 in
theorem sound_inner (ns : List Nd) (xs : List Int) (ga la : Option Addr) (gc lc gb : Nat) (wb : World) (Q0 : Exit → Act → World → Prop) (s0 s2 s3 s4 s5 s6 s7 s8 s11 s12 s13 s14 s15 s16 s17 s18 s19 s20 s21 s22 s23 s24 s25 s26 s27 s28 s29 s30 s31 s32 s33 s34 s35 s36 s37 s38 s39 s40 s41 s42 s43 s44 s45 s46 s47 s48 s49 s50 s51 s52 s53 s54 s55 s56 s57 s58 s59 s60 s61 s62 s63 s64 s65 s66 s67 s68 s69 s70 s71 s72 s73 s74 s75 s76 s77 s78 s79 s80 s81 s82 s83 s84 s85 s86 s87 s88 s89 s90 s91 s92 s93 s94 s95 s96 s97 s98 s99 s100 s101 s102 s103 s104 s105 s106 s107 s108 s109 s110 s111 s112 s113 s114 s115 s116 s117 s118 s119 s120 s121 s122 s123 s124 s125 s126 s127 s128 s129 s130 s131 s132 s133 s134 s135 s136 s137 s138 s139 s140 s141 s142 s143 s144 s145 s146 s147 s148 s149 s150 s151 s152 s153 s154 s155 s156 s157 s158 s159 s160 s161 s162 s163 s164 s165 s166 s167 s168 s169 s170 s171 s172 s173 s174 s175 s176 s177 s178 s179 s180 s181 s182 s183 s184 s185 s186 s187 s188 s189 s190 s191 s192 s193 s194 s195 s196 s197 : Value)
    (hn : NodesAt wb ga ns) (_hl : ns.length ≤ 8) (hx : IntsAt wb la xs) (hxl : xs.length ≤ 2) (hgb : gb < wb.heap.size) (hg0 : wb.cell? ⟨gb, 0, none⟩ = some (.slice ga ns.length gc))
    (hexit : ∀ (i2 i10 t165 t166 t167 t168 t169 t170 t171 t172 t173 t174 t175 t176 t177 t178 t179 t180 t181 t182 t183 t184 t185 t186 t187 t188 t189 t190 t191 t192 t193 t194 t195 t196 t197 : Value) (w' : World), (∀ j, j < xs.length → cbtfB ns (nth xs j) = true) → Bw wb w' → Q0 (.exit 4) ⟨(s0 :: .pointer (some ⟨gb, 0, none⟩) :: i2 :: s3 :: s4 :: s5 :: s6 :: s7 :: s8 :: .slice la xs.length lc :: i10 :: s11 :: s12 :: s13 :: s14 :: s15 :: s16 :: s17 :: s18 :: s19 :: s20 :: s21 :: s22 :: s23 :: s24 :: s25 :: s26 :: s27 :: s28 :: s29 :: s30 :: s31 :: s32 :: s33 :: s34 :: s35 :: s36 :: s37 :: s38 :: s39 :: s40 :: s41 :: s42 :: s43 :: s44 :: s45 :: s46 :: s47 :: s48 :: s49 :: s50 :: s51 :: s52 :: s53 :: s54 :: s55 :: s56 :: s57 :: s58 :: s59 :: s60 :: s61 :: s62 :: s63 :: s64 :: s65 :: s66 :: s67 :: s68 :: s69 :: s70 :: s71 :: s72 :: s73 :: s74 :: s75 :: s76 :: s77 :: s78 :: s79 :: s80 :: s81 :: s82 :: s83 :: s84 :: s85 :: s86 :: s87 :: s88 :: s89 :: s90 :: s91 :: s92 :: s93 :: s94 :: s95 :: s96 :: s97 :: s98 :: s99 :: s100 :: s101 :: s102 :: s103 :: s104 :: s105 :: s106 :: s107 :: s108 :: s109 :: s110 :: s111 :: s112 :: s113 :: s114 :: s115 :: s116 :: s117 :: s118 :: s119 :: s120 :: s121 :: s122 :: s123 :: s124 :: s125 :: s126 :: s127 :: s128 :: s129 :: s130 :: s131 :: s132 :: s133 :: s134 :: s135 :: s136 :: s137 :: s138 :: s139 :: s140 :: s141 :: s142 :: s143 :: s144 :: s145 :: s146 :: s147 :: s148 :: s149 :: s150 :: s151 :: s152 :: s153 :: s154 :: s155 :: s156 :: s157 :: s158 :: s159 :: s160 :: s161 :: s162 :: s163 :: s164 :: t165 :: t166 :: t167 :: t168 :: t169 :: t170 :: t171 :: t172 :: t173 :: t174 :: t175 :: t176 :: t177 :: t178 :: t179 :: t180 :: t181 :: t182 :: t183 :: t184 :: t185 :: t186 :: t187 :: t188 :: t189 :: t190 :: t191 :: t192 :: t193 :: t194 :: t195 :: t196 :: t197 :: []).toArray, []⟩ w')
    (hret : ∀ (i10 t165 t166 t167 t168 t169 t170 t171 t172 t173 t174 t175 t176 t177 t178 t179 t180 t181 t182 t183 t184 t185 t186 t187 t188 t189 t190 t191 t192 t193 t194 t195 t196 t197 : Value) (w' : World), (∃ j, j < xs.length ∧ cbtfB ns (nth xs j) = false) → Bw wb w' → Q0 .ret ⟨(s0 :: .pointer (some ⟨gb, 0, none⟩) :: .bool false :: s3 :: s4 :: s5 :: s6 :: s7 :: s8 :: .slice la xs.length lc :: i10 :: s11 :: s12 :: s13 :: s14 :: s15 :: s16 :: s17 :: s18 :: s19 :: s20 :: s21 :: s22 :: s23 :: s24 :: s25 :: s26 :: s27 :: s28 :: s29 :: s30 :: s31 :: s32 :: s33 :: s34 :: s35 :: s36 :: s37 :: s38 :: s39 :: s40 :: s41 :: s42 :: s43 :: s44 :: s45 :: s46 :: s47 :: s48 :: s49 :: s50 :: s51 :: s52 :: s53 :: s54 :: s55 :: s56 :: s57 :: s58 :: s59 :: s60 :: s61 :: s62 :: s63 :: s64 :: s65 :: s66 :: s67 :: s68 :: s69 :: s70 :: s71 :: s72 :: s73 :: s74 :: s75 :: s76 :: s77 :: s78 :: s79 :: s80 :: s81 :: s82 :: s83 :: s84 :: s85 :: s86 :: s87 :: s88 :: s89 :: s90 :: s91 :: s92 :: s93 :: s94 :: s95 :: s96 :: s97 :: s98 :: s99 :: s100 :: s101 :: s102 :: s103 :: s104 :: s105 :: s106 :: s107 :: s108 :: s109 :: s110 :: s111 :: s112 :: s113 :: s114 :: s115 :: s116 :: s117 :: s118 :: s119 :: s120 :: s121 :: s122 :: s123 :: s124 :: s125 :: s126 :: s127 :: s128 :: s129 :: s130 :: s131 :: s132 :: s133 :: s134 :: s135 :: s136 :: s137 :: s138 :: s139 :: s140 :: s141 :: s142 :: s143 :: s144 :: s145 :: s146 :: s147 :: s148 :: s149 :: s150 :: s151 :: s152 :: s153 :: s154 :: s155 :: s156 :: s157 :: s158 :: s159 :: s160 :: s161 :: s162 :: s163 :: s164 :: t165 :: t166 :: t167 :: t168 :: t169 :: t170 :: t171 :: t172 :: t173 :: t174 :: t175 :: t176 :: t177 :: t178 :: t179 :: t180 :: t181 :: t182 :: t183 :: t184 :: t185 :: t186 :: t187 :: t188 :: t189 :: t190 :: t191 :: t192 :: t193 :: t194 :: t195 :: t196 :: t197 :: []).toArray, []⟩ w') :
    Code.wp Tryz.prog (Code.loop (loopAt Tryz.f53.body 2)) Q0 ⟨(s0 :: .pointer (some ⟨gb, 0, none⟩) :: s2 :: s3 :: s4 :: s5 :: s6 :: s7 :: s8 :: .slice la xs.length lc :: .int .i64 0 :: s11 :: s12 :: s13 :: s14 :: s15 :: s16 :: s17 :: s18 :: s19 :: s20 :: s21 :: s22 :: s23 :: s24 :: s25 :: s26 :: s27 :: s28 :: s29 :: s30 :: s31 :: s32 :: s33 :: s34 :: s35 :: s36 :: s37 :: s38 :: s39 :: s40 :: s41 :: s42 :: s43 :: s44 :: s45 :: s46 :: s47 :: s48 :: s49 :: s50 :: s51 :: s52 :: s53 :: s54 :: s55 :: s56 :: s57 :: s58 :: s59 :: s60 :: s61 :: s62 :: s63 :: s64 :: s65 :: s66 :: s67 :: s68 :: s69 :: s70 :: s71 :: s72 :: s73 :: s74 :: s75 :: s76 :: s77 :: s78 :: s79 :: s80 :: s81 :: s82 :: s83 :: s84 :: s85 :: s86 :: s87 :: s88 :: s89 :: s90 :: s91 :: s92 :: s93 :: s94 :: s95 :: s96 :: s97 :: s98 :: s99 :: s100 :: s101 :: s102 :: s103 :: s104 :: s105 :: s106 :: s107 :: s108 :: s109 :: s110 :: s111 :: s112 :: s113 :: s114 :: s115 :: s116 :: s117 :: s118 :: s119 :: s120 :: s121 :: s122 :: s123 :: s124 :: s125 :: s126 :: s127 :: s128 :: s129 :: s130 :: s131 :: s132 :: s133 :: s134 :: s135 :: s136 :: s137 :: s138 :: s139 :: s140 :: s141 :: s142 :: s143 :: s144 :: s145 :: s146 :: s147 :: s148 :: s149 :: s150 :: s151 :: s152 :: s153 :: s154 :: s155 :: s156 :: s157 :: s158 :: s159 :: s160 :: s161 :: s162 :: s163 :: s164 :: s165 :: s166 :: s167 :: s168 :: s169 :: s170 :: s171 :: s172 :: s173 :: s174 :: s175 :: s176 :: s177 :: s178 :: s179 :: s180 :: s181 :: s182 :: s183 :: s184 :: s185 :: s186 :: s187 :: s188 :: s189 :: s190 :: s191 :: s192 :: s193 :: s194 :: s195 :: s196 :: s197 :: []).toArray, []⟩ wb := by
  conv => arg 2; arg 1; whnf
  have Hexit := hide hexit
  have Hret := hide hret
  clear hexit hret
  go_loopw [10] (fun i wi => ∃ j : Nat, j ≤ xs.length ∧ i = .int .i64 j ∧ (∀ j', j' < j → cbtfB ns (nth xs j') = true) ∧ Bw wb wi) (fun i _ => xs.length - (intOf i).toNat)
  case atStart => exact ⟨0, Nat.zero_le _, rfl, fun j hj => absurd hj (Nat.not_lt_zero j), Bw.refl _⟩
  case round =>
    obtain ⟨j, hj, rfl, hall, hW⟩ := hrel
    have Hall := hide hall
    clear hall
    obtain ⟨icc, iff⟩ := bcell hW
    by_cases hjl : j < xs.length
    · obtain ⟨b2, off2, rfl, hb2, hc2⟩ := hx j hjl
      have hn1 := hc2 j hjl
      clear hc2
      have hj1 : (0 : Int) ≤ (j : Int) := by omega
      have hj2 : (j : Int) < (xs.length : Int) := by omega
      generalize hnn : nth xs j = n at hn1
      have Hnn := hide hnn
      clear hnn
      by_cases hneg : n < 0
      · have hd : decide (n < 0) = true := by simpa using hneg
        have Hf := hide (show cbtfB ns (nth xs j) = false by rw [unhide Hnn]; exact cbtfB_false_lo hneg)
        go_wp2
        go_quiet (fail)
        go_wp2
        refine (unhide Hret) _ _ _ _ _ _ _ _ _ _ _ _ _ _ _ _ _ _ _ _ _ _ _ _ _ _ _ _ _ _ _ _ _ _ _ ⟨j, hjl, unhide Hf⟩ ?_
        exact (by repeat (first | exact Bw.refl _ | assumption | refine Bw.drew ?_ | refine Bw.drewN ?_ _ | refine Bw.alloc ?_ _ | refine Bw.trans ?_ (by assumption)))
      · by_cases hhi : (ns.length : Int) ≤ n
        · have hd : decide (n < 0) = false := by simpa using hneg
          have hd2 : decide ((ns.length : Int) ≤ n) = true := by simpa using hhi
          have Hf := hide (show cbtfB ns (nth xs j) = false by rw [unhide Hnn]; exact cbtfB_false_hi hhi)
          go_wp2
          go_quiet (fail)
          go_wp2
          refine (unhide Hret) _ _ _ _ _ _ _ _ _ _ _ _ _ _ _ _ _ _ _ _ _ _ _ _ _ _ _ _ _ _ _ _ _ _ _ ⟨j, hjl, unhide Hf⟩ ?_
          exact (by repeat (first | exact Bw.refl _ | assumption | refine Bw.drew ?_ | refine Bw.drewN ?_ _ | refine Bw.alloc ?_ _ | refine Bw.trans ?_ (by assumption)))
        · obtain ⟨i, rfl⟩ := Int.eq_ofNat_of_zero_le (a := n) (by omega)
          have hi1 : (0 : Int) ≤ (i : Int) := by omega
          have hi2 : (i : Int) < (ns.length : Int) := by omega
          have hd : decide ((i : Int) < 0) = false := by simp
          have hd2 : decide ((ns.length : Int) ≤ (i : Int)) = false := by simp; omega
          have hd3 : decide (ns.length ≤ i) = false := by simp; omega
          obtain ⟨b3, off3, rfl, hb3, hc3⟩ := hn i (by omega)
          have d0 := (hc3 i (by omega)).1
          clear hc3
          have hmid := cbtfB_mid hi1 hi2
          cases h7 : ((ndn ns i).kind == 7) with
          | true =>
            have Hf := hide (show cbtfB ns (nth xs j) = false by rw [unhide Hnn, hmid, Int.toNat_natCast, h7]; rfl)
            clear hmid
            go_wp2
            go_quiet (fail)
            go_wp2
            refine (unhide Hret) _ _ _ _ _ _ _ _ _ _ _ _ _ _ _ _ _ _ _ _ _ _ _ _ _ _ _ _ _ _ _ _ _ _ _ ⟨j, hjl, unhide Hf⟩ ?_
            exact (by repeat (first | exact Bw.refl _ | assumption | refine Bw.drew ?_ | refine Bw.drewN ?_ _ | refine Bw.alloc ?_ _ | refine Bw.trans ?_ (by assumption)))
          | false =>
            have Hg := hide (show cbtfB ns (nth xs j) = true by rw [unhide Hnn, hmid, Int.toNat_natCast, h7]; rfl)
            clear hmid
            go_wp2
            go_quiet (fail)
            go_wp2
            go_roundw
            case rel => exact ⟨j + 1, by omega, by go_num, all_snoc (unhide Hall) (unhide Hg), (by repeat (first | exact Bw.refl _ | assumption | refine Bw.drew ?_ | refine Bw.drewN ?_ _ | refine Bw.alloc ?_ _ | refine Bw.trans ?_ (by assumption)))⟩
            case measure => simp [intOf]; omega
    · go_wp2
      refine (unhide Hexit) _ _ _ _ _ _ _ _ _ _ _ _ _ _ _ _ _ _ _ _ _ _ _ _ _ _ _ _ _ _ _ _ _ _ _ _ (fun j' hj' => (unhide Hall) j' (by omega)) ?_
      exact (by repeat (first | exact Bw.refl _ | assumption | refine Bw.drew ?_ | refine Bw.drewN ?_ _ | refine Bw.alloc ?_ _ | refine Bw.trans ?_ (by assumption)))
end Go.Proofs.YtfemleimkbjehaaGreat
