/-
  message.reader's payload and message; read, Decode: what they answer.
-/
import Derived.Test.YtedlebkpdejhiacMsgOpts
import Derived.BigRegion
namespace Go.Proofs.Ytedlebkpdejhiac
open Go.RowKit Go.PlainAid

theorem tk_all (l : ByteArray) : tk l l.size = l := by rw [tk, if_pos (Nat.le_refl _)]; exact pre_all l

set_option maxHeartbeats 4000000 in
theorem payload_any (b : Nat) (l : ByteArray) (bad : Bool) (w : World) (hs : l.size ≤ 140737488355328) (h : Rm b l bad w) :
    Calls Try.prog 36 #[.pointer (some ⟨b, 0, none⟩)] w fun e w' => ∃ m, e = .returned (.string (plV l)) ∧ Rm b m (plB l bad) w' ∧ Km b w w' := by
  have HR := hide h
  obtain ⟨h0, h1, f0, f1⟩ := h.cells
  clear h
  by_cases hz : l.size = 0
  · have hl := nil_of_size hz
    have hne : (l.toList == []) = true := txt_yes (l := []) hl
    have HV : Hid (plV l = ⟨#[]⟩ ∧ plB l bad = bad) := ⟨if_pos hz, by rw [plB, decide_eq_false (by omega), Bool.or_false]⟩
    clear hz hl
    go_enter Try.func36, Try.ntmps36
    go_wp2
    go_ret
    exact ⟨l, by rw [HV.out.1]; rfl, by rw [HV.out.2]; exact HR.out, Km.refl _ _⟩
  · have hne : (l.toList == []) = false := txt_no (l := []) (fun e => by rw [e] at hz; exact hz rfl)
    have hc := tkL_cut (l := l) (k := 1) (by omega)
    have hB : tkB l 1 bad = bad := by rw [tkB, decide_eq_false (by omega), Bool.or_false]
    have HV : Hid (plV l = tkL l 1) := if_neg hz
    have C1 : Hid (∀ W, Rm b l bad W → Calls Try.prog 39 #[.pointer (some ⟨b, 0, none⟩), .int .i64 1] W fun e w' => e = .returned (.string (tk l 1)) ∧ Rm b (tkL l 1) bad w' ∧ Km b W w') := fun W x => by
      have := take_any b l bad 1 W hs x
      rwa [hB] at this
    clear hB
    by_cases hz2 : (tkL l 1).size = 0
    · have hl := nil_of_size hz2
      have hne2 : ((tkL l 1).toList == []) = true := txt_yes (l := []) hl
      have HP : Hid (plB l bad = true) := by show _ = _; rw [plB, decide_eq_true (by omega), Bool.or_true]
      have C2 : Hid (∀ W, Rm b (tkL l 1) true W → Calls Try.prog 34 #[.pointer (some ⟨b, 0, none⟩), .int .i64 (tkL l 1).size] W fun e w' => e = .returned (.string (tkL l 1)) ∧ Rm b (tkL (tkL l 1) (tkL l 1).size) true w' ∧ Km b W w') := fun W x => by
        have := mtext_any b (tkL l 1) true (tkL l 1).size W (by omega) x
        rwa [tk_all, show tkB (tkL l 1) (tkL l 1).size true = true from rfl] at this
      revert C1 C2 hne2 HV
      generalize tkL l 1 = L
      generalize tk l 1 = F
      intro HV C1 hne2 C2
      clear hz hz2 hl hc
      go_enter Try.func36, Try.ntmps36
      go_wp2_with fail
      refine (C1.out _ HR.out).mono ?_
      rintro e w1 ⟨rfl, hr1, hk1⟩
      have HR1 := hide hr1
      have HK1 := hide hk1
      obtain ⟨g0, g1, k0, k1⟩ := hr1.cells
      clear hr1 hk1 h0 h1 f0 f1
      go_wp2_with fail
      have HR2 := hide (HR1.out.set1 true)
      have x0 := HR2.out.cells.1
      refine (C2.out _ HR2.out).mono ?_
      rintro e w2 ⟨rfl, hr2, hk2⟩
      have HR3 := hide hr2
      have HK3 := hide ((HK1.out.trans (Km.set _ _ _ _)).trans hk2)
      clear hr2 hk2
      go_wp2
      go_ret
      exact ⟨_, by rw [HV.out]; rfl, by rw [HP.out]; exact HR3.out, HK3.out⟩
    · have hne2 : ((tkL l 1).toList == []) = false := txt_no (l := []) (fun e => by rw [e] at hz2; exact hz2 rfl)
      have HP : Hid (plB l bad = bad) := by show _ = _; rw [plB, decide_eq_false (by omega), Bool.or_false]
      have C2 : Hid (∀ W, Rm b (tkL l 1) bad W → Calls Try.prog 34 #[.pointer (some ⟨b, 0, none⟩), .int .i64 (tkL l 1).size] W fun e w' => e = .returned (.string (tkL l 1)) ∧ Rm b (tkL (tkL l 1) (tkL l 1).size) bad w' ∧ Km b W w') := fun W x => by
        have := mtext_any b (tkL l 1) bad (tkL l 1).size W (by omega) x
        rwa [tk_all, show tkB (tkL l 1) (tkL l 1).size bad = bad by rw [tkB, decide_eq_false (by omega), Bool.or_false]] at this
      revert C1 C2 hne2 HV
      generalize tkL l 1 = L
      generalize tk l 1 = F
      intro HV C1 hne2 C2
      clear hz hz2 hc
      go_enter Try.func36, Try.ntmps36
      go_wp2_with fail
      refine (C1.out _ HR.out).mono ?_
      rintro e w1 ⟨rfl, hr1, hk1⟩
      have HR1 := hide hr1
      have HK1 := hide hk1
      obtain ⟨g0, g1, k0, k1⟩ := hr1.cells
      clear hr1 hk1 h0 h1 f0 f1
      go_wp2_with fail
      refine (C2.out _ HR1.out).mono ?_
      rintro e w2 ⟨rfl, hr2, hk2⟩
      have HR3 := hide hr2
      have HK3 := hide (HK1.out.trans hk2)
      clear hr2 hk2
      go_wp2
      go_ret
      exact ⟨_, by rw [HV.out]; rfl, by rw [HP.out]; exact HR3.out, HK3.out⟩
/-- a message in block b -/
def Ma (b : Nat) (m : Mg) (v : Value) (w : World) : Prop := w.heap[b]? = some (.cells #[.int .i64 m.kind, .int .i64 m.code, .int .i64 m.id, .string m.token, v, .string m.payload] 24 (0, 0))
section
variable {b : Nat} {m : Mg} {v : Value} {w : World}
theorem Ma.lt (h : Ma b m v w) : b < w.heap.size := (Array.getElem?_eq_some_iff.1 h).1
theorem Ma.cell (h : Ma b m v w) : ∀ o, w.cell? ⟨b, o, none⟩ = (#[.int .i64 m.kind, .int .i64 m.code, .int .i64 m.id, .string m.token, v, .string m.payload] : Array Value)[o]? := fun o => Lib.cell_of_heap h o
theorem Ma.frozen (h : Ma b m v w) : ∀ o, w.frozen? ⟨b, o, none⟩ = false := fun o => Lib.frozen_of_heap h o
theorem Ma.km {a : Nat} {w' : World} (h : Ma b m v w) (hk : Km a w w') (hne : b ≠ a) : Ma b m v w' := by
  have := h.lt; unfold Ma at *; rw [hk.block b this hne]; exact h
theorem Ma.below {w' : World} (h : Ma b m v w) (hb : Below w.heap.size w w') : Ma b m v w' := by
  have := h.lt; unfold Ma at *; rw [hb.block b this]; exact h
theorem Ma.set1 (h : Ma b m v w) (x : Int) : Ma b { m with code := x } v (w.setCell ⟨b, 1, none⟩ (.int .i64 x)) := by
  unfold Ma at *; simp [World.setCell, Array.getElem?_modify, h]
theorem Ma.set2 (h : Ma b m v w) (x : Int) : Ma b { m with id := x } v (w.setCell ⟨b, 2, none⟩ (.int .i64 x)) := by
  unfold Ma at *; simp [World.setCell, Array.getElem?_modify, h]
theorem Ma.set3 (h : Ma b m v w) (x : ByteArray) : Ma b { m with token := x } v (w.setCell ⟨b, 3, none⟩ (.string x)) := by
  unfold Ma at *; simp [World.setCell, Array.getElem?_modify, h]
theorem Ma.set4 (h : Ma b m v w) (x : Value) : Ma b m x (w.setCell ⟨b, 4, none⟩ x) := by
  unfold Ma at *; simp [World.setCell, Array.getElem?_modify, h]
theorem Ma.set5 (h : Ma b m v w) (x : ByteArray) : Ma b { m with payload := x } v (w.setCell ⟨b, 5, none⟩ (.string x)) := by
  unfold Ma at *; simp [World.setCell, Array.getElem?_modify, h]
end
theorem Rm.other {b c : Nat} {l : ByteArray} {bad : Bool} {w : World} (h : Rm b l bad w) (hne : b ≠ c) (o : Nat) (v : Value) : Rm b l bad (w.setCell ⟨c, o, none⟩ v) := by
  unfold Rm at *; rw [Below.heap_setCell _ _ _ _ hne]; exact h

/-- what the reader's message answers, and what it leaves -/
def MsgPost (b : Nat) (w : World) (m : Mg) (bad : Bool) (e : Ending) (w' : World) : Prop :=
  ∃ ao co l, e = .returned (mgV m ao co) ∧ OptsIn w' ao m.opts ∧ (m.opts = [] ∨ ∃ g o, ao = some ⟨g, o, none⟩ ∧ w.heap.size ≤ g) ∧ Rm b l bad w' ∧ Km b w w'

theorem six_km0 (W : World) (c : Nat) (v0 v1 v2 v3 v4 v5 : Value) : Km c W ((((((W.setCell ⟨c, 0, none⟩ v0).setCell ⟨c, 1, none⟩ v1).setCell ⟨c, 2, none⟩ v2).setCell ⟨c, 3, none⟩ v3).setCell ⟨c, 4, none⟩ v4).setCell ⟨c, 5, none⟩ v5) :=
  (((((Km.set c W 0 v0).trans (Km.set c _ 1 v1)).trans (Km.set c _ 2 v2)).trans (Km.set c _ 3 v3)).trans (Km.set c _ 4 v4)).trans (Km.set c _ 5 v5)
theorem km_km {b c : Nat} {w W W' : World} (h : Km b w W) (k : Km c W W') (hc : w.heap.size ≤ c) : Km b w W' :=
  ⟨k.os.trans h.os, k.tape.trans h.tape, k.output.trans h.output, Nat.le_trans h.size k.size, fun x hx hb => (k.block x (Nat.lt_of_lt_of_le hx h.size) (by omega)).trans (h.block x hx hb)⟩
theorem km_rm {b c : Nat} {l : ByteArray} {bad : Bool} {W W' : World} (h : Rm b l bad W) (k : Km c W W') (hc : b ≠ c) : Rm b l bad W' := by
  have := h.lt; unfold Rm at *; rw [k.block b this hc]; exact h
theorem km_opts {c : Nat} {W W' : World} {ao : Option Addr} {l : List (Int × ByteArray)} (h : OptsIn W ao l) (k : Km c W W') (hc : l = [] ∨ ∃ g o, ao = some ⟨g, o, none⟩ ∧ c < g) : OptsIn W' ao l := by
  rcases h with h | ⟨b, o, ha, hl, hcell⟩
  · exact .inl h
  · rcases hc with hc | ⟨g, o', ha', hg⟩
    · exact .inl hc
    · rw [ha] at ha'
      simp only [Option.some.injEq, Addr.mk.injEq] at ha'
      have hbc : b ≠ c := by omega
      have hk := fun q => k.cell (p := ⟨b, q, none⟩) hl hbc
      exact .inr ⟨b, o, ha, Nat.lt_of_lt_of_le hl k.size, fun i hi => ⟨(hk _).trans (hcell i hi).1, (hk _).trans (hcell i hi).2⟩⟩

theorem fst_no {n : Int} (h : fstB n = false) : n < 64 ∨ 64 ≤ n ∧ (3 < (n - 64) / 16 ∨ 8 < n % 16) := by
  simp only [fstB, Bool.and_eq_false_iff, decide_eq_false_iff_not] at h
  omega

set_option maxHeartbeats 8000000 in
set_option maxRecDepth 100000 in
theorem message_no (b : Nat) (s : ByteArray) (w : World) (hs : s.size ≤ 140737488355328) (h : Rm b s false w) (hf : fstB (nu s 1) = false) :
    Calls Try.prog 27 #[.pointer (some ⟨b, 0, none⟩)] w (MsgPost b w zeroMg true) := by
  have HR := hide h
  have hb := h.lt
  obtain ⟨p1, p2⟩ := nu_range s 1
  simp only [Int.reducePow] at p2
  have C1 := hide (fun W x => mrnumber_any b s false 1 W hs (by decide) (by decide) x)
  have hno := fst_no hf
  clear h hf hs
  revert C1 p1 p2 hno
  generalize nu s 1 = n
  intro p1 p2 C1 hno
  have HZ : Hid (Ma w.heap.size zeroMg (.slice none 0 0) (w.alloc (.cells #[.int .i64 0, .int .i64 0, .int .i64 0, .string ⟨#[]⟩, .slice none 0 0, .string ⟨#[]⟩] 24))) := Go.heap_alloc_new w _
  have HB := hide ((Below.refl w.heap.size w).alloc (Nat.le_refl _) (.cells #[.int .i64 0, .int .i64 0, .int .i64 0, .string ⟨#[]⟩, .slice none 0 0, .string ⟨#[]⟩] 24))
  have hsz : (w.alloc (.cells #[.int .i64 0, .int .i64 0, .int .i64 0, .string ⟨#[]⟩, .slice none 0 0, .string ⟨#[]⟩] 24)).heap.size = w.heap.size + 1 := by simp
  go_enter Try.func27, Try.ntmps27
  go_upto_region 1 with fail
  revert HZ HB hsz
  generalize w.alloc (.cells #[.int .i64 0, .int .i64 0, .int .i64 0, .string ⟨#[]⟩, .slice none 0 0, .string ⟨#[]⟩] 24) = W0
  intro HZ HB hsz
  go_wp2_with fail
  refine (C1.out _ (HR.out.below HB.out)).mono ?_
  rintro e w1 ⟨rfl, hr1, hk1⟩
  have HR1 := hide hr1
  have HZ1 := hide (HZ.out.km hk1 (by omega))
  have HK1 := hide ((Km.of_below HB.out).trans hk1)
  obtain ⟨g0, g1, k0, k1⟩ := hr1.cells
  have hs1 := hk1.size
  clear hr1 hk1 C1
  have HR2 := hide (HR1.out.set1 true)
  have HZ2 : Hid (Ma w.heap.size zeroMg (.slice none 0 0) (w1.setCell ⟨b, 1, none⟩ (.bool true))) := by
    have := HZ1.out; unfold Ma at *; show _ = _; rw [Below.heap_setCell _ _ _ _ (by show w.heap.size ≠ b; omega)]; exact this
  have z2 := HZ2.out.cell
  have zf := HZ2.out.frozen
  simp only [zeroMg] at z2
  rcases hno with hlt | ⟨hge, hno⟩
  · have a1 : decide (n < 64) = true := by simp; omega
    go_wp2
    refine bodyPost_ret (v := mgV zeroMg none 0) (by simp [results, Try.results27, go_sem, mgV, zeroMg, World.cell?_setCell_same, z2]) rfl ⟨none, 0, _, rfl, .inl rfl, .inl rfl, km_rm HR2.out (six_km0 _ _ _ _ _ _ _ _) (by omega), km_km (HK1.out.trans (Km.set _ _ _ _)) (six_km0 _ _ _ _ _ _ _ _) (Nat.le_refl _)⟩
  · have a1 : decide (n < 64) = false := by simp; omega
    have hge' : 0 ≤ n - 64 := by omega
    by_cases h3 : 3 < (n - 64) / 16
    · have a2 : decide (3 < (n - 64) / 16) = true := by simp; omega
      clear hno
      go_wp2
      refine bodyPost_ret (v := mgV zeroMg none 0) (by simp [results, Try.results27, go_sem, mgV, zeroMg, World.cell?_setCell_same, z2]) rfl ⟨none, 0, _, rfl, .inl rfl, .inl rfl, km_rm HR2.out (six_km0 _ _ _ _ _ _ _ _) (by omega), km_km (HK1.out.trans (Km.set _ _ _ _)) (six_km0 _ _ _ _ _ _ _ _) (Nat.le_refl _)⟩
    · have a2 : decide (3 < (n - 64) / 16) = false := by simp; omega
      have a3 : decide (8 < n % 16) = true := by simp; omega
      clear hno
      go_wp2
      refine bodyPost_ret (v := mgV zeroMg none 0) (by simp [results, Try.results27, go_sem, mgV, zeroMg, World.cell?_setCell_same, z2]) rfl ⟨none, 0, _, rfl, .inl rfl, .inl rfl, km_rm HR2.out (six_km0 _ _ _ _ _ _ _ _) (by omega), km_km (HK1.out.trans (Km.set _ _ _ _)) (six_km0 _ _ _ _ _ _ _ _) (Nat.le_refl _)⟩
theorem rOpts_size : ∀ (f : Nat) (l : ByteArray) (bad : Bool) (a : Int) (acc : List (Int × ByteArray)), (rOpts f l bad a acc).2.1.size ≤ l.size := by
  intro f
  induction f with
  | zero => intro l bad a acc; exact Nat.le_refl _
  | succ f ih =>
    intro l bad a acc
    rw [rOpts]
    split
    · rename_i h
      have h1 := ih (oLeft l) (oBad l bad) (a + oMore l) (add13 acc (a + oMore l, oVal l))
      have h2 := (o_range l h.2.1).2.2.1
      omega
    · exact Nat.le_refl _
theorem rOpts_len : ∀ (f : Nat) (l : ByteArray) (bad : Bool) (a : Int) (acc : List (Int × ByteArray)), acc.length ≤ 13 → (rOpts f l bad a acc).1.length ≤ 13 := by
  intro f
  induction f with
  | zero => intro l bad a acc h; exact h
  | succ f ih =>
    intro l bad a acc h
    rw [rOpts]
    split
    · exact ih _ _ _ _ (add13_le h)
    · exact h
theorem fst_yes {n : Int} (h : fstB n = true) : 64 ≤ n ∧ (n - 64) / 16 ≤ 3 ∧ n % 16 ≤ 8 := by
  simp only [fstB, Bool.and_eq_true, decide_eq_true_eq] at h
  exact ⟨h.1.1, h.1.2, h.2⟩

set_option maxHeartbeats 8000000 in
set_option maxRecDepth 100000 in
theorem message_yes (b : Nat) (s : ByteArray) (w : World) (hs : s.size ≤ 140737488355328) (h : Rm b s false w) (hf : fstB (nu s 1) = true) :
    Calls Try.prog 27 #[.pointer (some ⟨b, 0, none⟩)] w (MsgPost b w (rdM s) (!rdMB s)) := by
  have HR := hide h
  have hb := h.lt
  obtain ⟨p1, p2⟩ := nu_range s 1
  simp only [Int.reducePow] at p2
  obtain ⟨q1, q2, q3⟩ := fst_yes hf
  have s1 : (mL1 s).size ≤ s.size := tkL_size _ _
  have s2 : (mL2 s).size ≤ (mL1 s).size := tkL_size _ _
  have s3 : (mL3 s).size ≤ (mL2 s).size := tkL_size _ _
  have s4 : (mL4 s).size ≤ (mL3 s).size := tkL_size _ _
  have s5 : (mO s).2.1.size ≤ (mL4 s).size := rOpts_size _ _ _ _ _
  have C1 : Hid (∀ W, Rm b s false W → Calls Try.prog 33 #[.pointer (some ⟨b, 0, none⟩), .int .i64 1] W fun e w' => e = .returned (.int .i64 (nu s 1)) ∧ Rm b (mL1 s) (tkB s 1 false) w' ∧ Km b W w') := fun W x => mrnumber_any b s false 1 W hs (by decide) (by decide) x
  have C2 : Hid (∀ W, Rm b (mL1 s) (tkB s 1 false) W → Calls Try.prog 33 #[.pointer (some ⟨b, 0, none⟩), .int .i64 1] W fun e w' => e = .returned (.int .i64 (nu (mL1 s) 1)) ∧ Rm b (mL2 s) (tkB (mL1 s) 1 (tkB s 1 false)) w' ∧ Km b W w') := fun W x => mrnumber_any b (mL1 s) _ 1 W (by omega) (by decide) (by decide) x
  have C3 : Hid (∀ W, Rm b (mL2 s) (tkB (mL1 s) 1 (tkB s 1 false)) W → Calls Try.prog 33 #[.pointer (some ⟨b, 0, none⟩), .int .i64 2] W fun e w' => e = .returned (.int .i64 (nu (mL2 s) 2)) ∧ Rm b (mL3 s) (tkB (mL2 s) 2 (tkB (mL1 s) 1 (tkB s 1 false))) w' ∧ Km b W w') := fun W x => mrnumber_any b (mL2 s) _ 2 W (by omega) (by decide) (by decide) x
  have C4 : Hid (∀ W, Rm b (mL3 s) (tkB (mL2 s) 2 (tkB (mL1 s) 1 (tkB s 1 false))) W → Calls Try.prog 34 #[.pointer (some ⟨b, 0, none⟩), .int .i64 (nu s 1 % 16)] W fun e w' => e = .returned (.string (tk (mL3 s) (nu s 1 % 16).toNat)) ∧ Rm b (mL4 s) (mB4 s) w' ∧ Km b W w') := fun W x => by
    have := mtext_any b (mL3 s) _ (nu s 1 % 16).toNat W (by omega) x
    rw [Int.toNat_of_nonneg (by omega)] at this
    exact this
  have C5 : Hid (∀ W, Rm b (mL4 s) (mB4 s) W → Calls Try.prog 35 #[.pointer (some ⟨b, 0, none⟩)] W (OptsPost b W (mO s))) := fun W x => options_any b (mL4 s) (mB4 s) W (by omega) x
  have C6 : Hid (∀ W, Rm b (mO s).2.1 (mO s).2.2 W → Calls Try.prog 36 #[.pointer (some ⟨b, 0, none⟩)] W fun e w' => ∃ m, e = .returned (.string (plV (mO s).2.1)) ∧ Rm b m (plB (mO s).2.1 (mO s).2.2) w' ∧ Km b W w') := fun W x => payload_any b _ _ W (by omega) x
  have HRD : Hid (rdM s = ⟨(nu s 1 - 64) / 16, nu (mL1 s) 1, nu (mL2 s) 2, tk (mL3 s) (nu s 1 % 16).toNat, (mO s).1, plV (mO s).2.1⟩) := if_pos hf
  have HRB : Hid ((!rdMB s) = plB (mO s).2.1 (mO s).2.2) := by show _ = _; unfold rdMB; rw [hf]; simp
  clear h hf hs s1 s2 s3 s4 s5
  rw [HRD.out, HRB.out]
  clear HRD HRB
  revert C1 C2 C3 C4 C5 C6 p1 p2 q1 q2 q3
  generalize tkB (mL2 s) 2 (tkB (mL1 s) 1 (tkB s 1 false)) = B3
  generalize tkB (mL1 s) 1 (tkB s 1 false) = B2
  generalize tkB s 1 false = B1
  generalize tk (mL3 s) (nu s 1 % 16).toNat = TOK
  generalize nu (mL1 s) 1 = CODE
  generalize nu (mL2 s) 2 = ID
  generalize nu s 1 = n
  generalize mL1 s = L1
  generalize mL2 s = L2
  generalize mL3 s = L3
  generalize mL4 s = L4
  generalize mB4 s = B4
  generalize mO s = R
  obtain ⟨RO, RL, RB⟩ := R
  simp only
  generalize plV RL = PV
  generalize plB RL RB = PB
  intro p1 p2 q1 q2 q3 C1 C2 C3 C4 C5 C6
  have a1 : decide (n < 64) = false := by simp; omega
  have hge' : 0 ≤ n - 64 := by omega
  have a2 : decide (3 < (n - 64) / 16) = false := by simp; omega
  have a3 : decide (8 < n % 16) = false := by simp; omega
  have HZ : Hid (Ma w.heap.size zeroMg (.slice none 0 0) (w.alloc (.cells #[.int .i64 0, .int .i64 0, .int .i64 0, .string ⟨#[]⟩, .slice none 0 0, .string ⟨#[]⟩] 24))) := Go.heap_alloc_new w _
  have HB := hide ((Below.refl w.heap.size w).alloc (Nat.le_refl _) (.cells #[.int .i64 0, .int .i64 0, .int .i64 0, .string ⟨#[]⟩, .slice none 0 0, .string ⟨#[]⟩] 24))
  have hsz : (w.alloc (.cells #[.int .i64 0, .int .i64 0, .int .i64 0, .string ⟨#[]⟩, .slice none 0 0, .string ⟨#[]⟩] 24)).heap.size = w.heap.size + 1 := by simp
  go_enter Try.func27, Try.ntmps27
  go_upto_region 1 with fail
  revert HZ HB hsz
  generalize w.alloc (.cells #[.int .i64 0, .int .i64 0, .int .i64 0, .string ⟨#[]⟩, .slice none 0 0, .string ⟨#[]⟩] 24) = W0
  intro HZ HB hsz
  go_wp2_with fail
  refine (C1.out _ (HR.out.below HB.out)).mono ?_
  rintro e w1 ⟨rfl, hr1, hk1⟩
  have HR1 := hide hr1
  have HZ1 := hide (HZ.out.km hk1 (by omega))
  have HK1 := hide ((Km.of_below (a := b) HB.out).trans hk1)
  have hs1 := hk1.size
  clear hr1 hk1 C1
  go_upto_region 7 with fail
  go_upto_region 8 with fail
  have hbx : Below w1.heap.size w1 (w1.alloc (.cells #[.int .i64 ((n - 64) / 16), .int .i64 0, .int .i64 0, .string ⟨#[]⟩, .slice none 0 0, .string ⟨#[]⟩] 24)) := (Below.refl _ _).alloc (Nat.le_refl _) _
  have HM2 : Hid (Ma w1.heap.size ⟨(n - 64) / 16, 0, 0, ⟨#[]⟩, [], ⟨#[]⟩⟩ (.slice none 0 0) (w1.alloc (.cells #[.int .i64 ((n - 64) / 16), .int .i64 0, .int .i64 0, .string ⟨#[]⟩, .slice none 0 0, .string ⟨#[]⟩] 24))) := Go.heap_alloc_new w1 _
  have hsx : (w1.alloc (.cells #[.int .i64 ((n - 64) / 16), .int .i64 0, .int .i64 0, .string ⟨#[]⟩, .slice none 0 0, .string ⟨#[]⟩] 24)).heap.size = w1.heap.size + 1 := by simp
  revert hbx HM2 hsx
  generalize w1.alloc (.cells #[.int .i64 ((n - 64) / 16), .int .i64 0, .int .i64 0, .string ⟨#[]⟩, .slice none 0 0, .string ⟨#[]⟩] 24) = W2
  intro hbx HM2 hsx
  have HR2 := hide (HR1.out.below hbx)
  have HZ2 := hide (HZ1.out.below hbx)
  have HK2 := hide (HK1.out.trans (Km.of_below hbx))
  clear hbx HR1 HZ1 HK1
  generalize hC : w1.heap.size = c6 at *
  have hc6 : w.heap.size < c6 := by omega
  have hc6b : b ≠ c6 := by omega
  clear hC
  -- the code
  go_wp2_with fail
  refine (C2.out _ HR2.out).mono ?_
  rintro e w3 ⟨rfl, hr3, hk3⟩
  have HM3 := hide (HM2.out.km hk3 (by omega))
  have m3 := HM3.out.cell
  have mf3 := HM3.out.frozen
  simp only at m3
  have HR3 := hide (km_rm hr3 (Km.set c6 _ 1 (.int .i64 CODE)) (by omega))
  have HZ3 := hide ((HZ2.out.km hk3 (by omega)).km (Km.set c6 _ 1 (.int .i64 CODE)) (by omega))
  have HK3 := hide (km_km (HK2.out.trans hk3) (Km.set c6 _ 1 (.int .i64 CODE)) (by omega))
  have HN3 := hide (HM3.out.set1 CODE)
  have hs3 := hk3.size
  clear hr3 hk3 HM2 HR2 HZ2 HK2
  go_wp2_with fail
  refine (C3.out _ HR3.out).mono ?_
  rintro e w4 ⟨rfl, hr4, hk4⟩
  have HM4 := hide (HN3.out.km hk4 (by omega))
  have m4 := HM4.out.cell
  have mf4 := HM4.out.frozen
  simp only at m4
  have HR4 := hide (km_rm hr4 (Km.set c6 _ 2 (.int .i64 ID)) (by omega))
  have HZ4 := hide ((HZ3.out.km hk4 (by omega)).km (Km.set c6 _ 2 (.int .i64 ID)) (by omega))
  have HK4 := hide (km_km (HK3.out.trans hk4) (Km.set c6 _ 2 (.int .i64 ID)) (by omega))
  have HN4 := hide (HM4.out.set2 ID)
  have hs4 := hk4.size
  simp only [World.setCell, Array.size_modify] at hs4
  clear hr4 hk4 m3 mf3 HM3 HN3 HR3 HZ3 HK3
  go_wp2_with fail
  refine (C4.out _ HR4.out).mono ?_
  rintro e w5 ⟨rfl, hr5, hk5⟩
  have HM5 := hide (HN4.out.km hk5 (by omega))
  have m5 := HM5.out.cell
  have mf5 := HM5.out.frozen
  simp only at m5
  have HR5 := hide (km_rm hr5 (Km.set c6 _ 3 (.string TOK)) (by omega))
  have HZ5 := hide ((HZ4.out.km hk5 (by omega)).km (Km.set c6 _ 3 (.string TOK)) (by omega))
  have HK5 := hide (km_km (HK4.out.trans hk5) (Km.set c6 _ 3 (.string TOK)) (by omega))
  have HN5 := hide (HM5.out.set3 TOK)
  have hs5 := hk5.size
  simp only [World.setCell, Array.size_modify] at hs5
  clear hr5 hk5 m4 mf4 HM4 HN4 HR4 HZ4 HK4
  go_wp2_with fail
  refine (C5.out _ HR5.out).mono ?_
  rintro e w6 ⟨ao, co, rfl, ho6, hfr6, hr6, hk6⟩
  have HM6 := hide (HN5.out.km hk6 (by omega))
  have m6 := HM6.out.cell
  have mf6 := HM6.out.frozen
  simp only at m6
  have HR6 := hide (km_rm hr6 (Km.set c6 _ 4 (.slice ao RO.length co)) (by omega))
  have HZ6 := hide ((HZ5.out.km hk6 (by omega)).km (Km.set c6 _ 4 (.slice ao RO.length co)) (by omega))
  have HK6 := hide (km_km (HK5.out.trans hk6) (Km.set c6 _ 4 (.slice ao RO.length co)) (by omega))
  have HN6 := hide (HM6.out.set4 (.slice ao RO.length co))
  have hs6 := hk6.size
  simp only [World.setCell, Array.size_modify] at hs6
  have HFR : Hid (RO = [] ∨ ∃ g o, ao = some ⟨g, o, none⟩ ∧ c6 < g) := by
    rcases hfr6 with hx | ⟨g, o, ha, hg⟩
    · exact .inl hx
    · exact .inr ⟨g, o, ha, by simp only [World.setCell, Array.size_modify] at hg; omega⟩
  have HO6 := hide (km_opts ho6 (Km.set c6 _ 4 (.slice ao RO.length co)) HFR.out)
  clear hr6 hk6 m5 mf5 HM5 HN5 HR5 HZ5 HK5 ho6 hfr6
  go_wp2_with fail
  refine (C6.out _ HR6.out).mono ?_
  rintro e w7 ⟨LL, rfl, hr7, hk7⟩
  have HM7 := hide (HN6.out.km hk7 (by omega))
  have m7 := HM7.out.cell
  have mf7 := HM7.out.frozen
  simp only at m7
  have HR7 := hide (km_rm hr7 (Km.set c6 _ 5 (.string PV)) (by omega))
  have HZ7 := hide ((HZ6.out.km hk7 (by omega)).km (Km.set c6 _ 5 (.string PV)) (by omega))
  have HK7 := hide (km_km (HK6.out.trans hk7) (Km.set c6 _ 5 (.string PV)) (by omega))
  have HN7 := hide (HM7.out.set5 PV)
  have HO7 := hide (km_opts (km_opts HO6.out hk7 (by rcases HFR.out with hx | ⟨g, o, ha, hg⟩; exact .inl hx; exact .inr ⟨g, o, ha, by omega⟩)) (Km.set c6 _ 5 (.string PV)) HFR.out)
  have hs7 := hk7.size
  clear hr7 hk7 m6 mf6 HM6 HN6 HR6 HZ6 HK6 HO6
  have z7 := HZ7.out.cell
  have zf7 := HZ7.out.frozen
  simp only [zeroMg] at z7
  have n7 := HN7.out.cell
  simp only at n7
  go_upto_region 13 with fail
  revert z7 zf7 n7 HR7 HZ7 HK7 HN7 HO7
  generalize w7.setCell ⟨c6, 5, none⟩ (.string PV) = W8
  intro HR7 HZ7 HK7 HN7 HO7 z7 zf7 n7
  go_wp2
  refine bodyPost_ret (v := mgV ⟨(n - 64) / 16, CODE, ID, TOK, RO, PV⟩ ao co) (by simp [results, Try.results27, go_sem, mgV, World.cell?_setCell_same, z7]) rfl ⟨ao, co, _, rfl, ?_, ?_, km_rm HR7.out (six_km0 _ _ _ _ _ _ _ _) (by omega), km_km HK7.out (six_km0 _ _ _ _ _ _ _ _) (Nat.le_refl _)⟩
  · exact km_opts HO7.out (six_km0 _ _ _ _ _ _ _ _) (by rcases HFR.out with hx | ⟨g, o, ha, hg⟩; exact .inl hx; exact .inr ⟨g, o, ha, by omega⟩)
  · rcases HFR.out with hx | ⟨g, o, ha, hg⟩
    · exact .inl hx
    · exact .inr ⟨g, o, ha, by omega⟩

theorem message_any (b : Nat) (s : ByteArray) (w : World) (hs : s.size ≤ 140737488355328) (h : Rm b s false w) :
    Calls Try.prog 27 #[.pointer (some ⟨b, 0, none⟩)] w (MsgPost b w (rdM s) (!rdMB s)) := by
  cases hf : fstB (nu s 1) with
  | true => exact message_yes b s w hs h hf
  | false =>
    have := message_no b s w hs h hf
    rwa [show rdM s = zeroMg from if_neg (by simp [hf]), show rdMB s = false by unfold rdMB; rw [hf]; rfl]
end Go.Proofs.Ytedlebkpdejhiac
