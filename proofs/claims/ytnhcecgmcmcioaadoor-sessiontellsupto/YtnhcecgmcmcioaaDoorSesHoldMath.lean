/-
  Sessions: a right session stays right; what was sent is there till it has landed (plain mathematics).
-/
import Derived.Test.YtnhcecgmcmcioaaDoorSesCalls
namespace Go.Proofs.YtnhcecgmcmcioaaDoor
open Go.RowKit Go.PlainAid

theorem fchkL_iff : ∀ (l a : List Fl), fchkL a l = 0 ↔ (∀ f ∈ l, toldE f.topic f.load = 0 ∧ idOk f.id = true) ∧ l.Pairwise (fun x y => y.id ≠ x.id) ∧ ∀ x ∈ a, ∀ y ∈ l, y.id ≠ x.id
  | [], a => by simp [fchkL]
  | f :: l, a => by
    rw [fchkL]
    by_cases h1 : toldE f.topic f.load = 0
    · rw [if_neg (by simp [h1])]
      by_cases h2 : idOk f.id = false
      · rw [if_pos h2]
        constructor
        · intro h; cases h
        · intro h
          have := (h.1 f (by simp)).2
          rw [h2] at this; cases this
      · rw [if_neg h2]
        by_cases h3 : a.any (isI f.id) = true
        · rw [if_pos h3]
          constructor
          · intro h; cases h
          · intro h
            obtain ⟨x, hx, he⟩ := any_mem h3
            exact absurd he.symm (h.2.2 x hx f (by simp))
        · rw [if_neg h3, fchkL_iff l (a ++ [f])]
          have h4 : ∀ x ∈ a, f.id ≠ x.id := fun x hx e => h3 (List.any_eq_true.2 ⟨x, hx, by simp [isI, e]⟩)
          constructor
          · rintro ⟨g1, g2, g3⟩
            refine ⟨fun x hx => ?_, ?_, fun x hx y hy => ?_⟩
            · rcases List.mem_cons.1 hx with rfl | hx
              · exact ⟨h1, by simpa using h2⟩
              · exact g1 x hx
            · exact List.pairwise_cons.2 ⟨fun y hy => g3 f (by simp) y hy, g2⟩
            · rcases List.mem_cons.1 hy with rfl | hy
              · exact h4 x hx
              · exact g3 x (by simp [hx]) y hy
          · rintro ⟨g1, g2, g3⟩
            obtain ⟨g4, g5⟩ := List.pairwise_cons.1 g2
            refine ⟨fun x hx => g1 x (by simp [hx]), g5, fun x hx y hy => ?_⟩
            rcases List.mem_append.1 hx with hx | hx
            · exact g3 x hx y (by simp [hy])
            · have : x = f := by simpa using hx
              subst this; exact g4 y hy
    · rw [if_pos h1]
      constructor
      · intro h; exact absurd h h1
      · intro h; exact absurd (h.1 f (by simp)).1 h1
theorem qchkL_iff : ∀ l : List Fl, qchkL l = 0 ↔ ∀ f ∈ l, toldE f.topic f.load = 0 ∧ f.id = 0
  | [] => by simp [qchkL]
  | f :: l => by
    rw [qchkL]
    by_cases h1 : toldE f.topic f.load = 0
    · rw [if_neg (by simp [h1])]
      by_cases h2 : f.id = 0
      · rw [if_neg (by simp [h2]), qchkL_iff l]; simp [h1, h2]
      · rw [if_pos h2]; simp [h2]
    · rw [if_pos h1]; simp [h1]

/-- right but for what could fly -/
structure PreS (s : Se) : Prop where
  cl : clB s.client = true
  fl : s.fl.length ≤ 3
  qu : s.qu.length ≤ 6
  f0 : fchkL [] s.fl = 0
  q0 : qchkL s.qu = 0
  nx : idOk s.next = true
theorem pre_of {s : Se} (h : chkS s = 0) : PreS s ∧ settled s = true := by
  unfold chkS at h
  by_cases h1 : clB s.client = false
  · rw [if_pos h1] at h; cases h
  rw [if_neg h1] at h
  by_cases h2 : 3 < s.fl.length ∨ 6 < s.qu.length
  · rw [if_pos h2] at h; cases h
  rw [if_neg h2] at h
  by_cases h3 : fchkL [] s.fl = 0
  · rw [if_neg (by simp [h3])] at h
    by_cases h4 : qchkL s.qu = 0
    · rw [if_neg (by simp [h4])] at h
      by_cases h5 : idOk s.next = false
      · rw [if_pos h5] at h; cases h
      · rw [if_neg h5] at h
        by_cases h6 : settled s = false
        · rw [if_pos h6] at h; cases h
        · exact ⟨⟨by simpa using h1, by omega, by omega, h3, h4, by simpa using h5⟩, by simpa using h6⟩
    · rw [if_pos h4] at h; exact absurd h h4
  · rw [if_pos h3] at h; exact absurd h h3
theorem chk_of {s : Se} (h : PreS s) (hs : settled s = true) : chkS s = 0 := by
  unfold chkS
  have h1 := h.fl
  have h2 := h.qu
  rw [if_neg (by simp [h.cl]), if_neg (by omega), if_neg (by simp [h.f0]), if_neg (by simp [h.q0]), if_neg (by simp [h.nx]), if_neg (by simp [hs])]
def loads (s : Se) : List ByteArray := (s.fl ++ s.qu).map (·.load)
theorem idOk_iff {n : Int} : idOk n = true ↔ 1 ≤ n ∧ n ≤ 65535 := by unfold idOk; simp

/-- what flyS leaves of what is right but for that -/
theorem flyS_right : ∀ (k : Nat) (s : Se) (L : List Pk), PreS s → s.on = true → 3 ≤ s.fl.length + k →
    chkS (flyS k s L).1 = 0 ∧ (flyS k s L).1.on = true ∧ (flyS k s L).1.clean = s.clean ∧ (flyS k s L).1.client = s.client ∧ loads (flyS k s L).1 = loads s
  | 0, s, L, h, ho, hk => by
    rw [flyS]
    refine ⟨chk_of h ?_, ho, rfl, rfl, rfl⟩
    have := h.fl
    unfold settled; rw [ho]; simp; omega
  | k + 1, s, L, h, ho, hk => by
    by_cases hq : s.qu = []
    · rw [flyS_end (.inr (.inl hq))]
      exact ⟨chk_of h (by unfold settled; rw [ho]; simp [hq]), ho, rfl, rfl, rfl⟩
    · by_cases hf : s.fl.length < 3
      · obtain ⟨f, q, hfq⟩ : ∃ f q, s.qu = f :: q := by cases e : s.qu with | nil => exact absurd e hq | cons f q => exact ⟨f, q, rfl⟩
        rw [flyS_step ho hfq hf]
        have hn := idOk_iff.1 h.nx
        obtain ⟨r1, r2, r3⟩ := frId_free h.fl hn
        have hnx := nxt_in ⟨r2, r3⟩
        have hq0 := (qchkL_iff _).1 h.q0
        have hf0 := (fchkL_iff _ _).1 h.f0
        have hqu := h.qu
        have ih := flyS_right k ⟨s.client, s.on, s.clean, s.fl ++ [⟨frId s.fl 4 s.next, f.topic, f.load⟩], q, nxt (frId s.fl 4 s.next)⟩ (L ++ [flP ⟨frId s.fl 4 s.next, f.topic, f.load⟩ false]) ⟨h.cl, by simp; omega, by rw [hfq] at hqu; simp at hqu; show q.length ≤ 6; omega, (fchkL_iff _ _).2 ⟨fun x hx => by
            rcases List.mem_append.1 hx with hx | hx
            · exact hf0.1 x hx
            · have : x = ⟨frId s.fl 4 s.next, f.topic, f.load⟩ := by simpa using hx
              subst this
              exact ⟨(hq0 f (by rw [hfq]; simp)).1, idOk_iff.2 ⟨r2, r3⟩⟩, List.pairwise_append.2 ⟨hf0.2.1, by simp, fun x hx y hy => by
                have : y = ⟨frId s.fl 4 s.next, f.topic, f.load⟩ := by simpa using hy
                subst this
                intro e
                have : s.fl.any (isI (frId s.fl 4 s.next)) = true := List.any_eq_true.2 ⟨x, hx, by simp [isI]; exact e.symm⟩
                rw [r1] at this; cases this⟩, by simp⟩, (qchkL_iff _).2 (fun x hx => hq0 x (by rw [hfq]; simp [hx])), idOk_iff.2 hnx⟩ ho (by simp; omega)
        refine ⟨ih.1, ih.2.1, ih.2.2.1, ih.2.2.2.1, ih.2.2.2.2.trans ?_⟩
        unfold loads
        rw [hfq]
        simp
      · rw [flyS_end (.inr (.inr hf))]
        have := h.fl
        exact ⟨chk_of h (by unfold settled; rw [ho]; simp; omega), ho, rfl, rfl, rfl⟩

/-- right, and there -/
structure Good (cl : Bool) (s : Se) : Prop where
  chk : chkS s = 0
  on : s.on = true
  clean : s.clean = cl
theorem told_a {p : ByteArray} (h : p.size ≤ 200) : toldE ⟨#[97]⟩ p = 0 := by
  unfold toldE
  have h0 : chk nameF ⟨#[97]⟩ = 0 := by decide +kernel
  rw [if_neg (by simp [h0]), if_neg (by omega)]
theorem send_good {cl : Bool} {s : Se} (h : Good cl s) {p : ByteArray} (hp : p.size ≤ 200) : sendE s ⟨#[97]⟩ p 1 = 0 ∧ Good cl (sendR s ⟨#[97]⟩ p 1).1 ∧ loads (sendR s ⟨#[97]⟩ p 1).1 = (if s.qu.length < 6 then loads s ++ [p] else loads s) := by
  have hE : sendE s ⟨#[97]⟩ p 1 = 0 := by
    unfold sendE sesE askedE
    rw [if_neg (by simp [h.chk]), if_neg (by simp [told_a hp]), if_pos (.inr rfl)]
  have hR : sendR s ⟨#[97]⟩ p 1 = flyS 3 (quS s ⟨#[97]⟩ p) [] := by
    unfold sendR resS sendS
    rw [if_neg (by simp [hE]), if_pos rfl]
  obtain ⟨hp1, _⟩ := pre_of h.chk
  have hQ : PreS (quS s ⟨#[97]⟩ p) := by
    unfold quS
    by_cases hw : (s.on = true ∨ s.clean = false) ∧ s.qu.length < 6
    · rw [if_pos hw]
      refine ⟨hp1.cl, hp1.fl, by simp; omega, hp1.f0, (qchkL_iff _).2 fun x hx => ?_, hp1.nx⟩
      rcases List.mem_append.1 hx with hx | hx
      · exact (qchkL_iff _).1 hp1.q0 x hx
      · have : x = ⟨0, ⟨#[97]⟩, p⟩ := by simpa using hx
        subst this; exact ⟨told_a hp, rfl⟩
    · rw [if_neg hw]; exact hp1
  obtain ⟨q1, q2, q3, q4, q5, _⟩ := quS_parts s ⟨#[97]⟩ p
  obtain ⟨f1, f2, f3, f4, f5⟩ := flyS_right 3 _ [] hQ (q3.trans h.on) (by omega)
  refine ⟨hE, by rw [hR]; exact ⟨f1, f2, f3.trans (q4.trans h.clean)⟩, by rw [hR, f5]; unfold quS loads; by_cases hw : s.qu.length < 6 <;> simp [h.on, hw]⟩
theorem off_erase {l : List Fl} (hp : l.Pairwise (fun x y => y.id ≠ x.id)) : ∀ n (h : n < l.length), offF l[n].id l = l.eraseIdx n := by
  induction l with
  | nil => intro n h; simp at h
  | cons a l ih =>
    obtain ⟨h1, h2⟩ := List.pairwise_cons.1 hp
    intro n h
    have e : ∀ id, offF id (a :: l) = (if isI id a = true then offF id l else a :: offF id l) := fun id => by
      unfold offF; rw [List.filter_cons]; cases isI id a <;> simp
    cases n with
    | zero =>
      rw [List.getElem_cons_zero, e, if_pos (by simp [isI])]
      simp only [List.eraseIdx_cons_zero]
      unfold offF
      rw [List.filter_eq_self]
      intro x hx
      have := h1 x hx
      simp [isI, this]
    | succ n =>
      have hn : n < l.length := by simpa using h
      rw [List.getElem_cons_succ, e, if_neg, ih h2 n hn, List.eraseIdx_cons_succ]
      have := h1 l[n] (List.getElem_mem hn)
      simp only [isI, beq_iff_eq]
      exact fun e => this e.symm
theorem land_good {cl : Bool} {s : Se} (h : Good cl s) {n : Nat} (hn : n < s.fl.length) : chkS s = 0 ∧ Good cl (landR s s.fl[n].id).1 ∧ loads (landR s s.fl[n].id).1 = (loads s).take n ++ (loads s).drop (n + 1) := by
  obtain ⟨hp1, _⟩ := pre_of h.chk
  have hR : landR s s.fl[n].id = flyS 3 { s with fl := offF s.fl[n].id s.fl } [] := by
    unfold landR resS landS
    rw [if_neg (by simp [h.chk])]
  have hf0 := (fchkL_iff _ _).1 hp1.f0
  have ho := off_erase hf0.2.1 n hn
  have hlen := hp1.fl
  have hQ : PreS { s with fl := offF s.fl[n].id s.fl } := by
    refine ⟨hp1.cl, Nat.le_trans (offF_len _ _) hp1.fl, hp1.qu, (fchkL_iff _ _).2 ⟨fun x hx => hf0.1 x (List.mem_filter.1 (show x ∈ s.fl.filter _ from hx)).1, hf0.2.1.sublist List.filter_sublist, by simp⟩, hp1.q0, hp1.nx⟩
  obtain ⟨f1, f2, f3, f4, f5⟩ := flyS_right 3 _ [] hQ h.on (by omega)
  refine ⟨h.chk, by rw [hR]; exact ⟨f1, f2, f3.trans h.clean⟩, ?_⟩
  rw [hR, f5]
  unfold loads
  show ((offF s.fl[n].id s.fl) ++ s.qu).map (·.load) = _
  rw [ho, ← List.map_take, ← List.map_drop, ← List.map_append, List.take_append_of_le_length (by omega), List.drop_append_of_le_length (by omega), List.eraseIdx_eq_take_drop_succ, List.append_assoc]
theorem go_good {cl : Bool} {s : Se} (h : Good cl s) : chkS s = 0 ∧ chkS (goR s) = 0 ∧ Good cl (comeR (goR s)).1 ∧ loads (comeR (goR s)).1 = (if cl = true then [] else loads s) := by
  obtain ⟨hp1, _⟩ := pre_of h.chk
  have hG : goR s = goS s := by unfold goR resS; rw [if_neg (by simp [h.chk])]
  have hP : PreS (goS s) ∧ settled (goS s) = true ∧ (goS s).clean = s.clean := by
    unfold goS
    by_cases hc : s.clean = true
    · rw [if_pos hc]
      exact ⟨⟨hp1.cl, by simp, by simp, by simp [fchkL], by simp [qchkL], hp1.nx⟩, by simp [settled], rfl⟩
    · rw [if_neg hc]
      exact ⟨⟨hp1.cl, hp1.fl, hp1.qu, hp1.f0, hp1.q0, hp1.nx⟩, by simp [settled, hc], rfl⟩
  have hc0 := chk_of hP.1 hP.2.1
  have hR : comeR (goS s) = flyS 3 { goS s with on := true } ((goS s).fl.map (flP · true)) := by unfold comeR resS; rw [if_neg (by simp [hc0])]
  obtain ⟨f1, f2, f3, f4, f5⟩ := flyS_right 3 { goS s with on := true } ((goS s).fl.map (flP · true)) ⟨hP.1.cl, hP.1.fl, hP.1.qu, hP.1.f0, hP.1.q0, hP.1.nx⟩ rfl (by omega)
  rw [hG]
  refine ⟨h.chk, hc0, by rw [hR]; exact ⟨f1, f2, f3.trans (hP.2.2.trans h.clean)⟩, ?_⟩
  rw [hR, f5]
  unfold loads goS
  have hcl := h.clean
  cases cl with
  | true => rw [if_pos hcl, if_pos rfl]; rfl
  | false => rw [if_neg (by simp [hcl]), if_neg (by simp)]
theorem good_0 (cl : Bool) : Good cl ⟨⟨#[97, 110, 110]⟩, true, cl, [], [], 1⟩ := by
  refine ⟨?_, rfl, rfl⟩
  cases cl <;> decide +kernel
theorem good_len {cl : Bool} {s : Se} (h : Good cl s) : s.fl.length ≤ 3 ∧ s.qu.length ≤ 6 ∧ (loads s).length = s.fl.length + s.qu.length := by
  obtain ⟨hp1, _⟩ := pre_of h.chk
  exact ⟨hp1.fl, hp1.qu, by simp [loads]⟩
end Go.Proofs.YtnhcecgmcmcioaaDoor
