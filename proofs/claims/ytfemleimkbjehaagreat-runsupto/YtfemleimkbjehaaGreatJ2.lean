import Derived.Test.YtfemleimkbjehaaGreatJ1
set_option maxRecDepth 1000000
set_option maxHeartbeats 40000000
set_option linter.unusedVariables false
set_option linter.unusedSimpArgs false
namespace Go.Proofs.YtfemleimkbjehaaGreat
open Go.RowKit
theorem sound_round_0 (ns : List Nd) (k : Nat) (ga : Option Addr) (gc gb : Nat) (wb : World) (Q0 : Exit → Act → World → Prop) : SRnd ns k ga gc gb wb Q0 ((qT ns k).kind = 0) := by
  unfold SRnd
  intros
  rename_i hn hl hlt hgb hg0 hkind hnorm hret
  conv => arg 2; whnf
  have Hnorm := qJ hnorm
  have Hret := qJ hret
  clear hnorm hret
  obtain ⟨b, off, rfl, hb, hc⟩ := hn k hlt
  obtain ⟨c0, c1, c2, c3, c4⟩ := hc k hlt
  clear hc
  have hk1 : (0 : Int) ≤ (k : Int) := by omega
  have hk2 : (k : Int) < (ns.length : Int) := by omega
  have hil := zW (qT ns k)
  have hwe := vH ns (qT ns k)
  have Hwe := qJ hwe
  clear hwe
  generalize hnd : qT ns k = x at c0 c1 c2 c3 c4 hkind
  have Hnd := qJ hnd
  clear hnd
  obtain ⟨κ, aa, bb, kk, mm⟩ := x
  simp only at hkind
  subst hkind
  cases hpre : vP ⟨0, aa, bb, kk, mm⟩ with
  | true =>
    have HP : Hid (vP (qT ns k) = true) := qJ (by rw [qK Hnd]; exact hpre)
    have hp := (zZ _).1 hpre
    clear hpre
    simp at hp
    obtain ⟨rfl, rfl, rfl, rfl⟩ := hp
    go_wp2_with (go_at_call 84; refine (vW ⟨_, _, _, _, _⟩ _).mono ?_; rintro e w' ⟨v, rfl, hown, hbl⟩; rw [← qK Hnd] at hown; obtain ⟨la, lc, rfl, hx, hml⟩ := hown.form; clear hown)
    have hBB : Bw wb w' := (by repeat first|exact br _|assumption|apply bd|apply bn|apply ba|refine bt ?_ (by assumption))
    have hg0' : w'.cell? ⟨gb, 0, none⟩ = some (.slice (some ⟨b, off, none⟩) ns.length gc) := ((qS hBB).1 _ _ hgb).trans hg0
    refine vU ns (kT (qT ns k)) _ _ gc _ gb w' _ (hn.below hBB) hl hx hil (Nat.lt_of_lt_of_le hgb hBB.size) hg0' ?_ ?_
    · intro i2 i10 t165 t166 t167 t168 t169 t170 t171 t172 t173 t174 t175 t176 t177 t178 t179 t180 t181 t182 t183 t184 t185 t186 t187 t188 t189 t190 t191 t192 t193 t194 t195 t196 t197 w2 hall hB2
      have Hw : Hid (kX ns (qT ns k) = true) := qJ (by rw [qK Hwe, qK HP, inB_all hall]; rfl)
      clear hall
      go_wp2
      refine (qK Hnorm) _ (qK Hw) ?_
      exact (by repeat first|exact br _|assumption|apply bd|apply bn|apply ba|refine bt ?_ (by assumption))
    · intro i10 t165 t166 t167 t168 t169 t170 t171 t172 t173 t174 t175 t176 t177 t178 t179 t180 t181 t182 t183 t184 t185 t186 t187 t188 t189 t190 t191 t192 t193 t194 t195 t196 t197 w2 hbad hB2
      have Hw : Hid (kX ns (qT ns k) = false) := qJ (by rw [qK Hwe, inB_no hbad, Bool.and_false])
      clear hbad
      go_wp2
      refine (qK Hret) _ (qK Hw) ?_
      exact (by repeat first|exact br _|assumption|apply bd|apply bn|apply ba|refine bt ?_ (by assumption))
  | false =>
    have Hw : Hid (kX ns (qT ns k) = false) := qJ (by rw [qK Hwe, qK Hnd, hpre]; rfl)
    have hp : ¬ vP ⟨0, aa, bb, kk, mm⟩ = true := by rw [hpre]; simp
    rw [zZ] at hp
    simp at hp
    have Hp := qJ hp
    clear hp hpre hil
    go_wp2_with fail
    all_goals first
      | (refine (qK Hret) _ (qK Hw) ?_; exact (by repeat first|exact br _|assumption|apply bd|apply bn|apply ba|refine bt ?_ (by assumption)))
      | (exfalso; have hp := qK Hp; simp_all; try omega)
theorem sound_round_1 (ns : List Nd) (k : Nat) (ga : Option Addr) (gc gb : Nat) (wb : World) (Q0 : Exit → Act → World → Prop) : SRnd ns k ga gc gb wb Q0 ((qT ns k).kind = 1) := by
  unfold SRnd
  intros
  rename_i hn hl hlt hgb hg0 hkind hnorm hret
  conv => arg 2; whnf
  have Hnorm := qJ hnorm
  have Hret := qJ hret
  clear hnorm hret
  obtain ⟨b, off, rfl, hb, hc⟩ := hn k hlt
  obtain ⟨c0, c1, c2, c3, c4⟩ := hc k hlt
  clear hc
  have hk1 : (0 : Int) ≤ (k : Int) := by omega
  have hk2 : (k : Int) < (ns.length : Int) := by omega
  have hil := zW (qT ns k)
  have hwe := vH ns (qT ns k)
  have Hwe := qJ hwe
  clear hwe
  generalize hnd : qT ns k = x at c0 c1 c2 c3 c4 hkind
  have Hnd := qJ hnd
  clear hnd
  obtain ⟨κ, aa, bb, kk, mm⟩ := x
  simp only at hkind
  subst hkind
  cases hpre : vP ⟨1, aa, bb, kk, mm⟩ with
  | true =>
    have HP : Hid (vP (qT ns k) = true) := qJ (by rw [qK Hnd]; exact hpre)
    have hp := (zZ _).1 hpre
    clear hpre
    simp at hp
    obtain ⟨rfl, rfl⟩ := hp
    go_wp2_with (go_at_call 84; refine (vW ⟨_, _, _, _, _⟩ _).mono ?_; rintro e w' ⟨v, rfl, hown, hbl⟩; rw [← qK Hnd] at hown; obtain ⟨la, lc, rfl, hx, hml⟩ := hown.form; clear hown)
    have hBB : Bw wb w' := (by repeat first|exact br _|assumption|apply bd|apply bn|apply ba|refine bt ?_ (by assumption))
    have hg0' : w'.cell? ⟨gb, 0, none⟩ = some (.slice (some ⟨b, off, none⟩) ns.length gc) := ((qS hBB).1 _ _ hgb).trans hg0
    refine vU ns (kT (qT ns k)) _ _ gc _ gb w' _ (hn.below hBB) hl hx hil (Nat.lt_of_lt_of_le hgb hBB.size) hg0' ?_ ?_
    · intro i2 i10 t165 t166 t167 t168 t169 t170 t171 t172 t173 t174 t175 t176 t177 t178 t179 t180 t181 t182 t183 t184 t185 t186 t187 t188 t189 t190 t191 t192 t193 t194 t195 t196 t197 w2 hall hB2
      have Hw : Hid (kX ns (qT ns k) = true) := qJ (by rw [qK Hwe, qK HP, inB_all hall]; rfl)
      clear hall
      go_wp2
      refine (qK Hnorm) _ (qK Hw) ?_
      exact (by repeat first|exact br _|assumption|apply bd|apply bn|apply ba|refine bt ?_ (by assumption))
    · intro i10 t165 t166 t167 t168 t169 t170 t171 t172 t173 t174 t175 t176 t177 t178 t179 t180 t181 t182 t183 t184 t185 t186 t187 t188 t189 t190 t191 t192 t193 t194 t195 t196 t197 w2 hbad hB2
      have Hw : Hid (kX ns (qT ns k) = false) := qJ (by rw [qK Hwe, inB_no hbad, Bool.and_false])
      clear hbad
      go_wp2
      refine (qK Hret) _ (qK Hw) ?_
      exact (by repeat first|exact br _|assumption|apply bd|apply bn|apply ba|refine bt ?_ (by assumption))
  | false =>
    have Hw : Hid (kX ns (qT ns k) = false) := qJ (by rw [qK Hwe, qK Hnd, hpre]; rfl)
    have hp : ¬ vP ⟨1, aa, bb, kk, mm⟩ = true := by rw [hpre]; simp
    rw [zZ] at hp
    simp at hp
    have Hp := qJ hp
    clear hp hpre hil
    go_wp2_with fail
    all_goals first
      | (refine (qK Hret) _ (qK Hw) ?_; exact (by repeat first|exact br _|assumption|apply bd|apply bn|apply ba|refine bt ?_ (by assumption)))
      | (exfalso; have hp := qK Hp; simp_all; try omega)
theorem sound_round_2 (ns : List Nd) (k : Nat) (ga : Option Addr) (gc gb : Nat) (wb : World) (Q0 : Exit → Act → World → Prop) : SRnd ns k ga gc gb wb Q0 ((qT ns k).kind = 2) := by
  unfold SRnd
  intros
  rename_i hn hl hlt hgb hg0 hkind hnorm hret
  conv => arg 2; whnf
  have Hnorm := qJ hnorm
  have Hret := qJ hret
  clear hnorm hret
  obtain ⟨b, off, rfl, hb, hc⟩ := hn k hlt
  obtain ⟨c0, c1, c2, c3, c4⟩ := hc k hlt
  clear hc
  have hk1 : (0 : Int) ≤ (k : Int) := by omega
  have hk2 : (k : Int) < (ns.length : Int) := by omega
  have hil := zW (qT ns k)
  have hwe := vH ns (qT ns k)
  have Hwe := qJ hwe
  clear hwe
  generalize hnd : qT ns k = x at c0 c1 c2 c3 c4 hkind
  have Hnd := qJ hnd
  clear hnd
  obtain ⟨κ, aa, bb, kk, mm⟩ := x
  simp only at hkind
  subst hkind
  cases hpre : vP ⟨2, aa, bb, kk, mm⟩ with
  | true =>
    have HP : Hid (vP (qT ns k) = true) := qJ (by rw [qK Hnd]; exact hpre)
    have hp := (zZ _).1 hpre
    clear hpre
    simp at hp
    obtain ⟨rfl, hp1, hp2, hp3, hp4⟩ := hp
    go_wp2_with (go_at_call 84; refine (vW ⟨_, _, _, _, _⟩ _).mono ?_; rintro e w' ⟨v, rfl, hown, hbl⟩; rw [← qK Hnd] at hown; obtain ⟨la, lc, rfl, hx, hml⟩ := hown.form; clear hown)
    have hBB : Bw wb w' := (by repeat first|exact br _|assumption|apply bd|apply bn|apply ba|refine bt ?_ (by assumption))
    have hg0' : w'.cell? ⟨gb, 0, none⟩ = some (.slice (some ⟨b, off, none⟩) ns.length gc) := ((qS hBB).1 _ _ hgb).trans hg0
    refine vU ns (kT (qT ns k)) _ _ gc _ gb w' _ (hn.below hBB) hl hx hil (Nat.lt_of_lt_of_le hgb hBB.size) hg0' ?_ ?_
    · intro i2 i10 t165 t166 t167 t168 t169 t170 t171 t172 t173 t174 t175 t176 t177 t178 t179 t180 t181 t182 t183 t184 t185 t186 t187 t188 t189 t190 t191 t192 t193 t194 t195 t196 t197 w2 hall hB2
      have Hw : Hid (kX ns (qT ns k) = true) := qJ (by rw [qK Hwe, qK HP, inB_all hall]; rfl)
      clear hall
      go_wp2
      refine (qK Hnorm) _ (qK Hw) ?_
      exact (by repeat first|exact br _|assumption|apply bd|apply bn|apply ba|refine bt ?_ (by assumption))
    · intro i10 t165 t166 t167 t168 t169 t170 t171 t172 t173 t174 t175 t176 t177 t178 t179 t180 t181 t182 t183 t184 t185 t186 t187 t188 t189 t190 t191 t192 t193 t194 t195 t196 t197 w2 hbad hB2
      have Hw : Hid (kX ns (qT ns k) = false) := qJ (by rw [qK Hwe, inB_no hbad, Bool.and_false])
      clear hbad
      go_wp2
      refine (qK Hret) _ (qK Hw) ?_
      exact (by repeat first|exact br _|assumption|apply bd|apply bn|apply ba|refine bt ?_ (by assumption))
  | false =>
    have Hw : Hid (kX ns (qT ns k) = false) := qJ (by rw [qK Hwe, qK Hnd, hpre]; rfl)
    have hp : ¬ vP ⟨2, aa, bb, kk, mm⟩ = true := by rw [hpre]; simp
    rw [zZ] at hp
    simp at hp
    have Hp := qJ hp
    clear hp hpre hil
    go_wp2_with fail
    all_goals first
      | (refine (qK Hret) _ (qK Hw) ?_; exact (by repeat first|exact br _|assumption|apply bd|apply bn|apply ba|refine bt ?_ (by assumption)))
      | (exfalso; have hp := qK Hp; simp_all; try omega)
theorem sound_round_3 (ns : List Nd) (k : Nat) (ga : Option Addr) (gc gb : Nat) (wb : World) (Q0 : Exit → Act → World → Prop) : SRnd ns k ga gc gb wb Q0 ((qT ns k).kind = 3) := by
  unfold SRnd
  intros
  rename_i hn hl hlt hgb hg0 hkind hnorm hret
  conv => arg 2; whnf
  have Hnorm := qJ hnorm
  have Hret := qJ hret
  clear hnorm hret
  obtain ⟨b, off, rfl, hb, hc⟩ := hn k hlt
  obtain ⟨c0, c1, c2, c3, c4⟩ := hc k hlt
  clear hc
  have hk1 : (0 : Int) ≤ (k : Int) := by omega
  have hk2 : (k : Int) < (ns.length : Int) := by omega
  have hil := zW (qT ns k)
  have hwe := vH ns (qT ns k)
  have Hwe := qJ hwe
  clear hwe
  generalize hnd : qT ns k = x at c0 c1 c2 c3 c4 hkind
  have Hnd := qJ hnd
  clear hnd
  obtain ⟨κ, aa, bb, kk, mm⟩ := x
  simp only at hkind
  subst hkind
  cases hpre : vP ⟨3, aa, bb, kk, mm⟩ with
  | true =>
    have HP : Hid (vP (qT ns k) = true) := qJ (by rw [qK Hnd]; exact hpre)
    have hp := (zZ _).1 hpre
    clear hpre
    simp at hp
    obtain ⟨rfl, rfl, hp1⟩ := hp
    go_wp2_with (go_at_call 84; refine (vW ⟨_, _, _, _, _⟩ _).mono ?_; rintro e w' ⟨v, rfl, hown, hbl⟩; rw [← qK Hnd] at hown; obtain ⟨la, lc, rfl, hx, hml⟩ := hown.form; clear hown)
    have hBB : Bw wb w' := (by repeat first|exact br _|assumption|apply bd|apply bn|apply ba|refine bt ?_ (by assumption))
    have hg0' : w'.cell? ⟨gb, 0, none⟩ = some (.slice (some ⟨b, off, none⟩) ns.length gc) := ((qS hBB).1 _ _ hgb).trans hg0
    refine vU ns (kT (qT ns k)) _ _ gc _ gb w' _ (hn.below hBB) hl hx hil (Nat.lt_of_lt_of_le hgb hBB.size) hg0' ?_ ?_
    · intro i2 i10 t165 t166 t167 t168 t169 t170 t171 t172 t173 t174 t175 t176 t177 t178 t179 t180 t181 t182 t183 t184 t185 t186 t187 t188 t189 t190 t191 t192 t193 t194 t195 t196 t197 w2 hall hB2
      have Hw : Hid (kX ns (qT ns k) = true) := qJ (by rw [qK Hwe, qK HP, inB_all hall]; rfl)
      clear hall
      go_wp2
      refine (qK Hnorm) _ (qK Hw) ?_
      exact (by repeat first|exact br _|assumption|apply bd|apply bn|apply ba|refine bt ?_ (by assumption))
    · intro i10 t165 t166 t167 t168 t169 t170 t171 t172 t173 t174 t175 t176 t177 t178 t179 t180 t181 t182 t183 t184 t185 t186 t187 t188 t189 t190 t191 t192 t193 t194 t195 t196 t197 w2 hbad hB2
      have Hw : Hid (kX ns (qT ns k) = false) := qJ (by rw [qK Hwe, inB_no hbad, Bool.and_false])
      clear hbad
      go_wp2
      refine (qK Hret) _ (qK Hw) ?_
      exact (by repeat first|exact br _|assumption|apply bd|apply bn|apply ba|refine bt ?_ (by assumption))
  | false =>
    have Hw : Hid (kX ns (qT ns k) = false) := qJ (by rw [qK Hwe, qK Hnd, hpre]; rfl)
    have hp : ¬ vP ⟨3, aa, bb, kk, mm⟩ = true := by rw [hpre]; simp
    rw [zZ] at hp
    simp at hp
    have Hp := qJ hp
    clear hp hpre hil
    go_wp2_with fail
    all_goals first
      | (refine (qK Hret) _ (qK Hw) ?_; exact (by repeat first|exact br _|assumption|apply bd|apply bn|apply ba|refine bt ?_ (by assumption)))
      | (exfalso; have hp := qK Hp; simp_all; try omega)
theorem sound_round_4 (ns : List Nd) (k : Nat) (ga : Option Addr) (gc gb : Nat) (wb : World) (Q0 : Exit → Act → World → Prop) : SRnd ns k ga gc gb wb Q0 ((qT ns k).kind = 4) := by
  unfold SRnd
  intros
  rename_i hn hl hlt hgb hg0 hkind hnorm hret
  conv => arg 2; whnf
  have Hnorm := qJ hnorm
  have Hret := qJ hret
  clear hnorm hret
  obtain ⟨b, off, rfl, hb, hc⟩ := hn k hlt
  obtain ⟨c0, c1, c2, c3, c4⟩ := hc k hlt
  clear hc
  have hk1 : (0 : Int) ≤ (k : Int) := by omega
  have hk2 : (k : Int) < (ns.length : Int) := by omega
  have hil := zW (qT ns k)
  have hwe := vH ns (qT ns k)
  have Hwe := qJ hwe
  clear hwe
  generalize hnd : qT ns k = x at c0 c1 c2 c3 c4 hkind
  have Hnd := qJ hnd
  clear hnd
  obtain ⟨κ, aa, bb, kk, mm⟩ := x
  simp only at hkind
  subst hkind
  cases hpre : vP ⟨4, aa, bb, kk, mm⟩ with
  | true =>
    have HP : Hid (vP (qT ns k) = true) := qJ (by rw [qK Hnd]; exact hpre)
    have hp := (zZ _).1 hpre
    clear hpre
    simp at hp
    obtain ⟨rfl, rfl, rfl⟩ := hp
    go_wp2_with (go_at_call 84; refine (vW ⟨_, _, _, _, _⟩ _).mono ?_; rintro e w' ⟨v, rfl, hown, hbl⟩; rw [← qK Hnd] at hown; obtain ⟨la, lc, rfl, hx, hml⟩ := hown.form; clear hown)
    have hBB : Bw wb w' := (by repeat first|exact br _|assumption|apply bd|apply bn|apply ba|refine bt ?_ (by assumption))
    have hg0' : w'.cell? ⟨gb, 0, none⟩ = some (.slice (some ⟨b, off, none⟩) ns.length gc) := ((qS hBB).1 _ _ hgb).trans hg0
    refine vU ns (kT (qT ns k)) _ _ gc _ gb w' _ (hn.below hBB) hl hx hil (Nat.lt_of_lt_of_le hgb hBB.size) hg0' ?_ ?_
    · intro i2 i10 t165 t166 t167 t168 t169 t170 t171 t172 t173 t174 t175 t176 t177 t178 t179 t180 t181 t182 t183 t184 t185 t186 t187 t188 t189 t190 t191 t192 t193 t194 t195 t196 t197 w2 hall hB2
      have Hw : Hid (kX ns (qT ns k) = true) := qJ (by rw [qK Hwe, qK HP, inB_all hall]; rfl)
      clear hall
      go_wp2
      refine (qK Hnorm) _ (qK Hw) ?_
      exact (by repeat first|exact br _|assumption|apply bd|apply bn|apply ba|refine bt ?_ (by assumption))
    · intro i10 t165 t166 t167 t168 t169 t170 t171 t172 t173 t174 t175 t176 t177 t178 t179 t180 t181 t182 t183 t184 t185 t186 t187 t188 t189 t190 t191 t192 t193 t194 t195 t196 t197 w2 hbad hB2
      have Hw : Hid (kX ns (qT ns k) = false) := qJ (by rw [qK Hwe, inB_no hbad, Bool.and_false])
      clear hbad
      go_wp2
      refine (qK Hret) _ (qK Hw) ?_
      exact (by repeat first|exact br _|assumption|apply bd|apply bn|apply ba|refine bt ?_ (by assumption))
  | false =>
    have Hw : Hid (kX ns (qT ns k) = false) := qJ (by rw [qK Hwe, qK Hnd, hpre]; rfl)
    have hp : ¬ vP ⟨4, aa, bb, kk, mm⟩ = true := by rw [hpre]; simp
    rw [zZ] at hp
    simp at hp
    have Hp := qJ hp
    clear hp hpre hil
    go_wp2_with fail
    all_goals first
      | (refine (qK Hret) _ (qK Hw) ?_; exact (by repeat first|exact br _|assumption|apply bd|apply bn|apply ba|refine bt ?_ (by assumption)))
      | (exfalso; have hp := qK Hp; simp_all; try omega)
theorem sound_round_5 (ns : List Nd) (k : Nat) (ga : Option Addr) (gc gb : Nat) (wb : World) (Q0 : Exit → Act → World → Prop) : SRnd ns k ga gc gb wb Q0 ((qT ns k).kind = 5) := by
  unfold SRnd
  intros
  rename_i hn hl hlt hgb hg0 hkind hnorm hret
  conv => arg 2; whnf
  have Hnorm := qJ hnorm
  have Hret := qJ hret
  clear hnorm hret
  obtain ⟨b, off, rfl, hb, hc⟩ := hn k hlt
  obtain ⟨c0, c1, c2, c3, c4⟩ := hc k hlt
  clear hc
  have hk1 : (0 : Int) ≤ (k : Int) := by omega
  have hk2 : (k : Int) < (ns.length : Int) := by omega
  have hil := zW (qT ns k)
  have hwe := vH ns (qT ns k)
  have Hwe := qJ hwe
  clear hwe
  generalize hnd : qT ns k = x at c0 c1 c2 c3 c4 hkind
  have Hnd := qJ hnd
  clear hnd
  obtain ⟨κ, aa, bb, kk, mm⟩ := x
  simp only at hkind
  subst hkind
  cases hpre : vP ⟨5, aa, bb, kk, mm⟩ with
  | true =>
    have HP : Hid (vP (qT ns k) = true) := qJ (by rw [qK Hnd]; exact hpre)
    have hp := (zZ _).1 hpre
    clear hpre
    simp at hp
    obtain ⟨rfl, rfl, rfl⟩ := hp
    go_wp2_with (go_at_call 84; refine (vW ⟨_, _, _, _, _⟩ _).mono ?_; rintro e w' ⟨v, rfl, hown, hbl⟩; rw [← qK Hnd] at hown; obtain ⟨la, lc, rfl, hx, hml⟩ := hown.form; clear hown)
    have hBB : Bw wb w' := (by repeat first|exact br _|assumption|apply bd|apply bn|apply ba|refine bt ?_ (by assumption))
    have hg0' : w'.cell? ⟨gb, 0, none⟩ = some (.slice (some ⟨b, off, none⟩) ns.length gc) := ((qS hBB).1 _ _ hgb).trans hg0
    refine vU ns (kT (qT ns k)) _ _ gc _ gb w' _ (hn.below hBB) hl hx hil (Nat.lt_of_lt_of_le hgb hBB.size) hg0' ?_ ?_
    · intro i2 i10 t165 t166 t167 t168 t169 t170 t171 t172 t173 t174 t175 t176 t177 t178 t179 t180 t181 t182 t183 t184 t185 t186 t187 t188 t189 t190 t191 t192 t193 t194 t195 t196 t197 w2 hall hB2
      have Hw : Hid (kX ns (qT ns k) = true) := qJ (by rw [qK Hwe, qK HP, inB_all hall]; rfl)
      clear hall
      go_wp2
      refine (qK Hnorm) _ (qK Hw) ?_
      exact (by repeat first|exact br _|assumption|apply bd|apply bn|apply ba|refine bt ?_ (by assumption))
    · intro i10 t165 t166 t167 t168 t169 t170 t171 t172 t173 t174 t175 t176 t177 t178 t179 t180 t181 t182 t183 t184 t185 t186 t187 t188 t189 t190 t191 t192 t193 t194 t195 t196 t197 w2 hbad hB2
      have Hw : Hid (kX ns (qT ns k) = false) := qJ (by rw [qK Hwe, inB_no hbad, Bool.and_false])
      clear hbad
      go_wp2
      refine (qK Hret) _ (qK Hw) ?_
      exact (by repeat first|exact br _|assumption|apply bd|apply bn|apply ba|refine bt ?_ (by assumption))
  | false =>
    have Hw : Hid (kX ns (qT ns k) = false) := qJ (by rw [qK Hwe, qK Hnd, hpre]; rfl)
    have hp : ¬ vP ⟨5, aa, bb, kk, mm⟩ = true := by rw [hpre]; simp
    rw [zZ] at hp
    simp at hp
    have Hp := qJ hp
    clear hp hpre hil
    go_wp2_with fail
    all_goals first
      | (refine (qK Hret) _ (qK Hw) ?_; exact (by repeat first|exact br _|assumption|apply bd|apply bn|apply ba|refine bt ?_ (by assumption)))
      | (exfalso; have hp := qK Hp; simp_all; try omega)
theorem sound_round_6 (ns : List Nd) (k : Nat) (ga : Option Addr) (gc gb : Nat) (wb : World) (Q0 : Exit → Act → World → Prop) : SRnd ns k ga gc gb wb Q0 ((qT ns k).kind = 6) := by
  unfold SRnd
  intros
  rename_i hn hl hlt hgb hg0 hkind hnorm hret
  conv => arg 2; whnf
  have Hnorm := qJ hnorm
  have Hret := qJ hret
  clear hnorm hret
  obtain ⟨b, off, rfl, hb, hc⟩ := hn k hlt
  obtain ⟨c0, c1, c2, c3, c4⟩ := hc k hlt
  clear hc
  have hk1 : (0 : Int) ≤ (k : Int) := by omega
  have hk2 : (k : Int) < (ns.length : Int) := by omega
  have hil := zW (qT ns k)
  have hwe := vH ns (qT ns k)
  have Hwe := qJ hwe
  clear hwe
  generalize hnd : qT ns k = x at c0 c1 c2 c3 c4 hkind
  have Hnd := qJ hnd
  clear hnd
  obtain ⟨κ, aa, bb, kk, mm⟩ := x
  simp only at hkind
  subst hkind
  cases hpre : vP ⟨6, aa, bb, kk, mm⟩ with
  | true =>
    have HP : Hid (vP (qT ns k) = true) := qJ (by rw [qK Hnd]; exact hpre)
    have hp := (zZ _).1 hpre
    clear hpre
    simp at hp
    obtain ⟨rfl, rfl, hp1, hp2⟩ := hp
    go_wp2_with (go_at_call 84; refine (vW ⟨_, _, _, _, _⟩ _).mono ?_; rintro e w' ⟨v, rfl, hown, hbl⟩; rw [← qK Hnd] at hown; obtain ⟨la, lc, rfl, hx, hml⟩ := hown.form; clear hown)
    have hBB : Bw wb w' := (by repeat first|exact br _|assumption|apply bd|apply bn|apply ba|refine bt ?_ (by assumption))
    have hg0' : w'.cell? ⟨gb, 0, none⟩ = some (.slice (some ⟨b, off, none⟩) ns.length gc) := ((qS hBB).1 _ _ hgb).trans hg0
    refine vU ns (kT (qT ns k)) _ _ gc _ gb w' _ (hn.below hBB) hl hx hil (Nat.lt_of_lt_of_le hgb hBB.size) hg0' ?_ ?_
    · intro i2 i10 t165 t166 t167 t168 t169 t170 t171 t172 t173 t174 t175 t176 t177 t178 t179 t180 t181 t182 t183 t184 t185 t186 t187 t188 t189 t190 t191 t192 t193 t194 t195 t196 t197 w2 hall hB2
      have Hw : Hid (kX ns (qT ns k) = true) := qJ (by rw [qK Hwe, qK HP, inB_all hall]; rfl)
      clear hall
      go_wp2
      refine (qK Hnorm) _ (qK Hw) ?_
      exact (by repeat first|exact br _|assumption|apply bd|apply bn|apply ba|refine bt ?_ (by assumption))
    · intro i10 t165 t166 t167 t168 t169 t170 t171 t172 t173 t174 t175 t176 t177 t178 t179 t180 t181 t182 t183 t184 t185 t186 t187 t188 t189 t190 t191 t192 t193 t194 t195 t196 t197 w2 hbad hB2
      have Hw : Hid (kX ns (qT ns k) = false) := qJ (by rw [qK Hwe, inB_no hbad, Bool.and_false])
      clear hbad
      go_wp2
      refine (qK Hret) _ (qK Hw) ?_
      exact (by repeat first|exact br _|assumption|apply bd|apply bn|apply ba|refine bt ?_ (by assumption))
  | false =>
    have Hw : Hid (kX ns (qT ns k) = false) := qJ (by rw [qK Hwe, qK Hnd, hpre]; rfl)
    have hp : ¬ vP ⟨6, aa, bb, kk, mm⟩ = true := by rw [hpre]; simp
    rw [zZ] at hp
    simp at hp
    have Hp := qJ hp
    clear hp hpre hil
    go_wp2_with fail
    all_goals first
      | (refine (qK Hret) _ (qK Hw) ?_; exact (by repeat first|exact br _|assumption|apply bd|apply bn|apply ba|refine bt ?_ (by assumption)))
      | (exfalso; have hp := qK Hp; simp_all; try omega)
theorem sound_round_7 (ns : List Nd) (k : Nat) (ga : Option Addr) (gc gb : Nat) (wb : World) (Q0 : Exit → Act → World → Prop) : SRnd ns k ga gc gb wb Q0 ((qT ns k).kind = 7) := by
  unfold SRnd
  intros
  rename_i hn hl hlt hgb hg0 hkind hnorm hret
  conv => arg 2; whnf
  have Hnorm := qJ hnorm
  have Hret := qJ hret
  clear hnorm hret
  obtain ⟨b, off, rfl, hb, hc⟩ := hn k hlt
  obtain ⟨c0, c1, c2, c3, c4⟩ := hc k hlt
  clear hc
  have hk1 : (0 : Int) ≤ (k : Int) := by omega
  have hk2 : (k : Int) < (ns.length : Int) := by omega
  have hil := zW (qT ns k)
  have hwe := vH ns (qT ns k)
  have Hwe := qJ hwe
  clear hwe
  generalize hnd : qT ns k = x at c0 c1 c2 c3 c4 hkind
  have Hnd := qJ hnd
  clear hnd
  obtain ⟨κ, aa, bb, kk, mm⟩ := x
  simp only at hkind
  subst hkind
  cases hpre : vP ⟨7, aa, bb, kk, mm⟩ with
  | true =>
    have HP : Hid (vP (qT ns k) = true) := qJ (by rw [qK Hnd]; exact hpre)
    have hp := (zZ _).1 hpre
    clear hpre
    simp at hp
    obtain ⟨rfl, rfl, rfl⟩ := hp
    go_wp2_with (go_at_call 84; refine (vW ⟨_, _, _, _, _⟩ _).mono ?_; rintro e w' ⟨v, rfl, hown, hbl⟩; rw [← qK Hnd] at hown; obtain ⟨la, lc, rfl, hx, hml⟩ := hown.form; clear hown)
    have hBB : Bw wb w' := (by repeat first|exact br _|assumption|apply bd|apply bn|apply ba|refine bt ?_ (by assumption))
    have hg0' : w'.cell? ⟨gb, 0, none⟩ = some (.slice (some ⟨b, off, none⟩) ns.length gc) := ((qS hBB).1 _ _ hgb).trans hg0
    refine vU ns (kT (qT ns k)) _ _ gc _ gb w' _ (hn.below hBB) hl hx hil (Nat.lt_of_lt_of_le hgb hBB.size) hg0' ?_ ?_
    · intro i2 i10 t165 t166 t167 t168 t169 t170 t171 t172 t173 t174 t175 t176 t177 t178 t179 t180 t181 t182 t183 t184 t185 t186 t187 t188 t189 t190 t191 t192 t193 t194 t195 t196 t197 w2 hall hB2
      have Hw : Hid (kX ns (qT ns k) = true) := qJ (by rw [qK Hwe, qK HP, inB_all hall]; rfl)
      clear hall
      go_wp2
      refine (qK Hnorm) _ (qK Hw) ?_
      exact (by repeat first|exact br _|assumption|apply bd|apply bn|apply ba|refine bt ?_ (by assumption))
    · intro i10 t165 t166 t167 t168 t169 t170 t171 t172 t173 t174 t175 t176 t177 t178 t179 t180 t181 t182 t183 t184 t185 t186 t187 t188 t189 t190 t191 t192 t193 t194 t195 t196 t197 w2 hbad hB2
      have Hw : Hid (kX ns (qT ns k) = false) := qJ (by rw [qK Hwe, inB_no hbad, Bool.and_false])
      clear hbad
      go_wp2
      refine (qK Hret) _ (qK Hw) ?_
      exact (by repeat first|exact br _|assumption|apply bd|apply bn|apply ba|refine bt ?_ (by assumption))
  | false =>
    have Hw : Hid (kX ns (qT ns k) = false) := qJ (by rw [qK Hwe, qK Hnd, hpre]; rfl)
    have hp : ¬ vP ⟨7, aa, bb, kk, mm⟩ = true := by rw [hpre]; simp
    rw [zZ] at hp
    simp at hp
    have Hp := qJ hp
    clear hp hpre hil
    go_wp2_with fail
    all_goals first
      | (refine (qK Hret) _ (qK Hw) ?_; exact (by repeat first|exact br _|assumption|apply bd|apply bn|apply ba|refine bt ?_ (by assumption)))
      | (exfalso; have hp := qK Hp; simp_all; try omega)
theorem sound_round_out (ns : List Nd) (k : Nat) (ga : Option Addr) (gc gb : Nat) (wb : World) (Q0 : Exit → Act → World → Prop) : SRnd ns k ga gc gb wb Q0 ((qT ns k).kind < 0 ∨ 7 < (qT ns k).kind) := by
  unfold SRnd
  intros
  rename_i hn hl hlt hgb hg0 hkind hnorm hret
  conv => arg 2; whnf
  have Hnorm := qJ hnorm
  have Hret := qJ hret
  clear hnorm hret
  obtain ⟨b, off, rfl, hb, hc⟩ := hn k hlt
  obtain ⟨c0, c1, c2, c3, c4⟩ := hc k hlt
  clear hc
  have hk1 : (0 : Int) ≤ (k : Int) := by omega
  have hk2 : (k : Int) < (ns.length : Int) := by omega
  have hil := zW (qT ns k)
  have hwe := vH ns (qT ns k)
  have Hwe := qJ hwe
  clear hwe
  generalize hnd : qT ns k = x at c0 c1 c2 c3 c4 hkind
  have Hnd := qJ hnd
  clear hnd
  obtain ⟨κ, aa, bb, kk, mm⟩ := x
  simp only at hkind
  have Hw : Hid (kX ns (qT ns k) = false) := qJ (by rw [qK Hwe, qK Hnd, preB_out (by simp only; omega)]; rfl)
  clear hil
  rcases hkind with hkind | hkind
  all_goals
    go_wp2
    refine (qK Hret) _ (qK Hw) ?_
    exact (by repeat first|exact br _|assumption|apply bd|apply bn|apply ba|refine bt ?_ (by assumption))
theorem sound_round (ns : List Nd) (k : Nat) (ga : Option Addr) (gc gb : Nat) (wb : World) (Q0 : Exit → Act → World → Prop) : SRnd ns k ga gc gb wb Q0 True := by
  unfold SRnd
  intros
  rename_i hn hl hlt hgb hg0 _ hnorm hret
  by_cases h8 : 0 ≤ (qT ns k).kind ∧ (qT ns k).kind ≤ 7
  · have h : (qT ns k).kind = 0 ∨ (qT ns k).kind = 1 ∨ (qT ns k).kind = 2 ∨ (qT ns k).kind = 3 ∨ (qT ns k).kind = 4 ∨ (qT ns k).kind = 5 ∨ (qT ns k).kind = 6 ∨ (qT ns k).kind = 7 := by omega
    rcases h with h | h | h | h | h | h | h | h
    · exact sound_round_0 ns k ga gc gb wb Q0 hn hl hlt hgb hg0 h hnorm hret
    · exact sound_round_1 ns k ga gc gb wb Q0 hn hl hlt hgb hg0 h hnorm hret
    · exact sound_round_2 ns k ga gc gb wb Q0 hn hl hlt hgb hg0 h hnorm hret
    · exact sound_round_3 ns k ga gc gb wb Q0 hn hl hlt hgb hg0 h hnorm hret
    · exact sound_round_4 ns k ga gc gb wb Q0 hn hl hlt hgb hg0 h hnorm hret
    · exact sound_round_5 ns k ga gc gb wb Q0 hn hl hlt hgb hg0 h hnorm hret
    · exact sound_round_6 ns k ga gc gb wb Q0 hn hl hlt hgb hg0 h hnorm hret
    · exact sound_round_7 ns k ga gc gb wb Q0 hn hl hlt hgb hg0 h hnorm hret
  · exact sound_round_out ns k ga gc gb wb Q0 hn hl hlt hgb hg0 (by omega) hnorm hret
theorem sound_any (ns : List Nd) (ga : Option Addr) (gc : Nat) (r : Int) (w : World) (hn : NodesAt w ga ns) (hl : ns.length ≤ maxLen) :
    Calls Tryz.prog 53 #[.agg #[.slice ga ns.length gc, .int .i64 r]] w fun e w' => e = .returned (.bool (wfB ns r)) ∧ Bw w w' := by
  have hl2 := hl
  unfold maxLen at hl2
  by_cases hbad : ns.length < 1 ∨ 8 < ns.length ∨ r < 1 ∨ 4 < r
  · have HB := qJ (wfB_bad hbad)
    rcases hbad with h1 | h2 | h3 | h4
    · have h1' : ns.length = 0 := by omega
      go_enter Tryz.func53, Tryz.ntmps53
      go_wp2
      all_goals
        go_ret
        exact ⟨ret_bool (qK HB).symm, (by repeat first|exact br _|assumption|apply bd|apply bn|apply ba|refine bt ?_ (by assumption))⟩
    · have h1' : ((ns.length : Int) == 0) = false := by simp; intro h; simp [h] at h2
      go_enter Tryz.func53, Tryz.ntmps53
      go_wp2
      all_goals
        go_ret
        exact ⟨ret_bool (qK HB).symm, (by repeat first|exact br _|assumption|apply bd|apply bn|apply ba|refine bt ?_ (by assumption))⟩
    · go_enter Tryz.func53, Tryz.ntmps53
      go_wp2
      all_goals
        go_ret
        exact ⟨ret_bool (qK HB).symm, (by repeat first|exact br _|assumption|apply bd|apply bn|apply ba|refine bt ?_ (by assumption))⟩
    · go_enter Tryz.func53, Tryz.ntmps53
      go_wp2
      all_goals
        go_ret
        exact ⟨ret_bool (qK HB).symm, (by repeat first|exact br _|assumption|apply bd|apply bn|apply ba|refine bt ?_ (by assumption))⟩
  have h1 : 1 ≤ ns.length := by omega
  have h1' : ((ns.length : Int) == 0) = false := by simp; intro h; simp [h] at h1
  have h2 : ns.length ≤ 8 := by omega
  have h3 : 1 ≤ r := by omega
  have h4 : r ≤ 4 := by omega
  clear hbad
  have HF := qJ (wfB_good h1 h2 h3 h4)
  go_enter Tryz.func53, Tryz.ntmps53
  go_wp2
  go_loop [3, 4] (fun m i => ∃ k : Nat, k ≤ ns.length ∧ i = .int .i64 k ∧ m = .int .i64 (mgTo ns k)) (fun _ i => ns.length - (intOf i).toNat)
  case atStart => exact ⟨0, Nat.zero_le _, rfl, rfl⟩
  case round =>
    obtain ⟨k, hk, rfl, rfl⟩ := hrel
    have hm := mgTo_le ns k
    by_cases hlt : k < ns.length
    · obtain ⟨b, off, rfl, hb, hc⟩ := hn k hlt
      obtain ⟨c0, c1, c2, c3, c4⟩ := hc k hlt
      clear hc
      go_wp2
      · go_round
        case rel => exact ⟨k + 1, by omega, by go_num, by rw [mgTo_hit (by assumption)]; go_num⟩
        case measure => simp [intOf]; omega
      · go_round
        case rel => exact ⟨k + 1, by omega, by go_num, by rw [mgTo_miss (by assumption)]⟩
        case measure => simp [intOf]; omega
    · have hkk : k = ns.length := by omega
      subst hkk
      by_cases hm3 : 3 < mgTo ns ns.length
      · go_wp2
        go_ret
        exact ⟨ret_bool (by rw [qK HF]; simp; intro _; omega), (by repeat first|exact br _|assumption|apply bd|apply bn|apply ba|refine bt ?_ (by assumption))⟩
      · go_wp2
        go_loopw [5] (fun i wr => ∃ k : Nat, k ≤ ns.length ∧ i = .int .i64 k ∧ wfTo ns k = true ∧ Bw (w.alloc (.cells #[.slice ga ns.length gc, .int .i64 r] 24)) wr) (fun i _ => ns.length - (intOf i).toNat)
        case atStart => exact ⟨0, Nat.zero_le _, rfl, rfl, (by repeat first|exact br _|assumption|apply bd|apply bn|apply ba|refine bt ?_ (by assumption))⟩
        case round =>
          obtain ⟨k, hk, rfl, hwf, hB⟩ := hrel
          have Hwf := qJ hwf
          clear hwf
          obtain ⟨gcc, gff⟩ := qS hB
          have gz : w.heap.size < wr.heap.size := by have := hB.size; simp at this; omega
          by_cases hlt : k < ns.length
          · have hg0 : wr.cell? ⟨w.heap.size, 0, none⟩ = some (.slice ga ns.length gc) := (gcc _ _ (by simp)).trans (by simp)
            refine sound_round ns k ga gc w.heap.size wr _ (hn.below (by repeat first|exact br _|assumption|apply bd|apply bn|apply ba|refine bt ?_ (by assumption))) h2 hlt gz hg0 trivial ?_ ?_
            · intro t2 t6 t7 t8 t9 t10 t49 t50 t51 t52 t53 t54 t55 t56 t57 t58 t59 t60 t61 t62 t63 t64 t65 t66 t67 t68 t69 t70 t71 t72 t73 t74 t75 t76 t77 t78 t79 t80 t81 t82 t83 t84 t85 t86 t87 t88 t89 t90 t91 t92 t93 t94 t95 t96 t97 t98 t99 t100 t101 t102 t103 t104 t105 t106 t107 t108 t109 t110 t111 t112 t113 t114 t115 t116 t117 t118 t119 t120 t121 t122 t123 t124 t125 t126 t127 t128 t129 t130 t131 t132 t133 t134 t135 t136 t137 t138 t139 t140 t141 t142 t143 t144 t145 t146 t147 t148 t149 t150 t151 t152 t153 t154 t155 t156 t157 t158 t159 t160 t161 t162 t163 t164 t165 t166 t167 t168 t169 t170 t171 t172 t173 t174 t175 t176 t177 t178 t179 t180 t181 t182 t183 t184 t185 t186 t187 t188 t189 t190 t191 t192 t193 t194 t195 t196 t197 w2 hw1 hB2
              have HW1 := qJ hw1
              clear hw1
              go_wp2
              go_roundw
              case rel => exact ⟨k + 1, by omega, by go_num, by unfold wfTo; rw [qK Hwf, qK HW1]; rfl, (by repeat first|exact br _|assumption|apply bd|apply bn|apply ba|refine bt ?_ (by assumption))⟩
              case measure => simp [intOf]; omega
            · intro t5 t6 t7 t8 t9 t10 t49 t50 t51 t52 t53 t54 t55 t56 t57 t58 t59 t60 t61 t62 t63 t64 t65 t66 t67 t68 t69 t70 t71 t72 t73 t74 t75 t76 t77 t78 t79 t80 t81 t82 t83 t84 t85 t86 t87 t88 t89 t90 t91 t92 t93 t94 t95 t96 t97 t98 t99 t100 t101 t102 t103 t104 t105 t106 t107 t108 t109 t110 t111 t112 t113 t114 t115 t116 t117 t118 t119 t120 t121 t122 t123 t124 t125 t126 t127 t128 t129 t130 t131 t132 t133 t134 t135 t136 t137 t138 t139 t140 t141 t142 t143 t144 t145 t146 t147 t148 t149 t150 t151 t152 t153 t154 t155 t156 t157 t158 t159 t160 t161 t162 t163 t164 t165 t166 t167 t168 t169 t170 t171 t172 t173 t174 t175 t176 t177 t178 t179 t180 t181 t182 t183 t184 t185 t186 t187 t188 t189 t190 t191 t192 t193 t194 t195 t196 t197 w2 hw1 hB2
              have Hf := qJ (wfTo_false (ns := ns) (k := k + 1) (by unfold wfTo; rw [hw1, Bool.and_false]) ns.length (by omega))
              clear hw1
              go_wp2
              go_ret
              exact ⟨ret_bool (by rw [qK HF, qK Hf]; rfl), (by repeat first|exact br _|assumption|apply bd|apply bn|apply ba|refine bt ?_ (by assumption))⟩
          · have hkk : k = ns.length := by omega
            subst hkk
            go_wp2
            go_ret
            exact ⟨ret_bool (by rw [qK HF, qK Hwf]; simp; omega), (by repeat first|exact br _|assumption|apply bd|apply bn|apply ba|refine bt ?_ (by assumption))⟩
end Go.Proofs.YtfemleimkbjehaaGreat
