/-
  dragomanref.halfOf, MessageBytes: what they answer.
-/
import Derived.Test.YtedlebkpdejhiacMsgDecode
import Derived.Test.YtedlebkpdejhiacMsgWrite
import Derived.Test.YtedlebkpdejhiacWireRef
import Derived.Deep.RegionWith
import Derived.Deep.RegionHeld
import Derived.Deep.DrawnRows
namespace Go.Proofs.Ytedlebkpdejhiac
open Go.RowKit Go.PlainAid
attribute [local go_sem ↓] Go.wp_at_zero Go.wp_at_succ

set_option maxHeartbeats 1000000 in
theorem halfOf_any (n : Int) (w : World) (h0 : 0 ≤ n) (h1 : n ≤ 65804) : Calls Try.prog 19 #[.int .i64 n] w fun e w' => e = .returned (.tuple #[.int .i64 (halfN n), .string (halfS n)]) ∧ Below w.heap.size w w' := by
  unfold halfN halfS
  by_cases h2 : n < 13
  · rw [if_pos h2, if_pos h2]
    have h3 : ¬ 269 ≤ n := by omega
    have h4 : ¬ 13 ≤ n := by omega
    go_enter Try.func19, Try.ntmps19
    go_wp2
    go_ret2
    exact ⟨rfl, Below.refl _ _⟩
  · rw [if_neg h2, if_neg h2]
    by_cases h3 : n < 269
    · rw [if_pos h3, if_pos h3]
      have h4 : ¬ 269 ≤ n := by omega
      have h5 : 13 ≤ n := by omega
      have C := hide (fun W => numberOf_any (n - 13) 1 W (nuE (k := 1) (.inl rfl) (by omega) (by simp; omega)))
      go_enter Try.func19, Try.ntmps19
      go_wp2_with fail
      refine (C.out _).mono ?_
      rintro e w1 ⟨rfl, hb1⟩
      have HB := hide hb1
      clear hb1
      go_wp2
      go_ret2
      exact ⟨rfl, HB.out⟩
    · rw [if_neg h3, if_neg h3]
      have h4 : 269 ≤ n := by omega
      have C := hide (fun W => numberOf_any (n - 269) 2 W (nuE (k := 2) (.inr rfl) (by omega) (by simp; omega)))
      go_enter Try.func19, Try.ntmps19
      go_wp2_with fail
      refine (C.out _).mono ?_
      rintro e w1 ⟨rfl, hb1⟩
      have HB := hide hb1
      clear hb1
      go_wp2
      go_ret2
      exact ⟨rfl, HB.out⟩

theorem add_str {P : Program} (t : TypeId) (a b : ByteArray) (W : World) (ha : (a.size : Int) ≤ 8388608) (hb : (b.size : Int) ≤ 8388608) : (binOp .add t (.string a) (.string b)).run P W = .ok (.string (a ++ b)) W := by simp [binOp, run_string_add, *]
theorem bytes_parts {m : Mg} (h : chkM m = 0) : numE (64 + 16 * m.kind + m.token.size) 1 = 0 ∧ numE m.code 1 = 0 ∧ numE m.id 2 = 0 := by
  have hok := chkM_ok h
  exact ⟨nuE (k := 1) (.inl rfl) (by omega) (by simp; omega), nuE (k := 1) (.inl rfl) (by omega) (by simp; omega), nuE (k := 2) (.inr rfl) (by omega) (by simp; omega)⟩

set_option maxHeartbeats 8000000 in
set_option maxRecDepth 100000 in
theorem bytes_any (m : Mg) (ao : Option Addr) (co : Nat) (w : World) (hl : OptsIn w ao m.opts) (hc : chkM m = 0) :
    Calls Try.prog 10 #[mgV m ao co] w fun e w' => e = .returned (.string (encM m)) ∧ Below w.heap.size w w' := by
  have hok := chkM_ok hc
  obtain ⟨n1, n2, n3⟩ := bytes_parts hc
  generalize hENC : encM m = ENC
  have HENC := hide hENC
  have HL := hide hl
  have N1 := hide n1
  have N2 := hide n2
  have N3 := hide n3
  have C : Hid (∀ v k W, numE v k = 0 → Calls Try.prog 18 #[.int .i64 v, .int .i64 k] W fun e w' => e = .returned (.string (numS v k)) ∧ Below W.heap.size W w') := fun v k W h => numberOf_any v k W h
  clear hc hl hENC n1 n2 n3
  have z1 := mnum_le4 (64 + 16 * m.kind + m.token.size) 1
  have z2 := mnum_le4 m.code 1
  have z3 := mnum_le4 m.id 2
  obtain ⟨⟨k1, k2⟩, ⟨c1, c2⟩, ⟨i1, i2⟩, ht, hn, hp, hE⟩ := hok
  have HE := hide hE
  clear hE
  have hw1 : IntKind.i64.wrap (16 * m.kind) = 16 * m.kind := wrap_i64_in _ (by omega) (by omega)
  have hw2 : IntKind.i64.wrap (64 + 16 * m.kind) = 64 + 16 * m.kind := wrap_i64_in _ (by omega) (by omega)
  have hw3 : IntKind.i64.wrap (64 + 16 * m.kind + m.token.size) = 64 + 16 * m.kind + m.token.size := wrap_i64_in _ (by omega) (by omega)
  have HX : Hid (Ma w.heap.size m (.slice ao m.opts.length co) (w.alloc (.cells #[.int .i64 m.kind, .int .i64 m.code, .int .i64 m.id, .string m.token, .slice ao m.opts.length co, .string m.payload] 24))) := Go.heap_alloc_new w _
  have HBc := hide ((Below.refl w.heap.size w).alloc (Nat.le_refl _) (.cells #[.int .i64 m.kind, .int .i64 m.code, .int .i64 m.id, .string m.token, .slice ao m.opts.length co, .string m.payload] 24))
  have x1 := HX.out.cell
  simp only [mgV]
  go_enter Try.func10, Try.ntmps10
  go_upto_region 1 with fail
  revert HX HBc x1
  generalize w.alloc (.cells #[.int .i64 m.kind, .int .i64 m.code, .int .i64 m.id, .string m.token, .slice ao m.opts.length co, .string m.payload] 24) = W0
  intro HX HBc x1
  go_cut [3] (fun q wr => q = .string (numS (64 + 16 * m.kind + m.token.size) 1 ++ numS m.code 1 ++ numS m.id 2 ++ m.token) ∧ Hid (Ma w.heap.size m (.slice ao m.opts.length co) wr ∧ Below w.heap.size w wr))
  case first =>
    have HX : Hid (Ma w.heap.size m (.slice ao m.opts.length co) W0.drew) := HX.out
    have HBc : Hid (Below w.heap.size w W0.drew) := HBc.out.drew
    have s1 : ((numS (64 + 16 * m.kind + m.token.size) 1).size : Int) ≤ 8388608 := by omega
    have s2 : ((numS m.code 1).size : Int) ≤ 8388608 := by omega
    have s3 : ((numS m.id 2).size : Int) ≤ 8388608 := by omega
    have s4 : (m.token.size : Int) ≤ 8388608 := by omega
    have r1 : ∀ W, (binOp .add 9 (.string (numS (64 + 16 * m.kind + m.token.size) 1)) (.string (numS m.code 1))).run Try.prog W = .ok (.string (numS (64 + 16 * m.kind + m.token.size) 1 ++ numS m.code 1)) W := fun W => add_str _ _ _ W s1 s2
    have r2 : ∀ W, (binOp .add 9 (.string (numS (64 + 16 * m.kind + m.token.size) 1 ++ numS m.code 1)) (.string (numS m.id 2))).run Try.prog W = .ok (.string (numS (64 + 16 * m.kind + m.token.size) 1 ++ numS m.code 1 ++ numS m.id 2)) W := fun W => add_str _ _ _ W (by rw [ByteArray.size_append]; omega) s3
    have r3 : ∀ W, (binOp .add 9 (.string (numS (64 + 16 * m.kind + m.token.size) 1 ++ numS m.code 1 ++ numS m.id 2)) (.string m.token)).run Try.prog W = .ok (.string (numS (64 + 16 * m.kind + m.token.size) 1 ++ numS m.code 1 ++ numS m.id 2 ++ m.token)) W := fun W => add_str _ _ _ W (by rw [ByteArray.size_append, ByteArray.size_append]; omega) s4
    have g0 := HX.out.cell 0
    have g1 := HX.out.cell 1
    have g2 := HX.out.cell 2
    have g3 := HX.out.cell 3
    clear x1
    go_region_held (fun w' => w'.cell? ⟨w.heap.size, 0, none⟩ = some (.int .i64 m.kind) ∧ w'.cell? ⟨w.heap.size, 1, none⟩ = some (.int .i64 m.code) ∧ w'.cell? ⟨w.heap.size, 2, none⟩ = some (.int .i64 m.id) ∧ w'.cell? ⟨w.heap.size, 3, none⟩ = some (.string m.token))
      (first | go_keep | exact ⟨HX.out.cell 0, HX.out.cell 1, HX.out.cell 2, HX.out.cell 3⟩)
      (first | ((go_at_call 18; refine (C.out _ _ _ (by first | exact N1.out | exact N2.out | exact N3.out)).mono ?_; rintro e wx ⟨rfl, hbx⟩; have HX := hide (HX.out.below hbx); have HBc := hide (below_step HBc.out hbx); clear hbx)) | fail)
    all_goals
      go_wp2_with fail
      go_meet
      case rel => exact ⟨rfl, HX.out, HBc.out⟩
  case rest =>
    obtain ⟨rfl, HW⟩ := hcut
    obtain ⟨X, hX⟩ : ∃ X, X = numS (64 + 16 * m.kind + m.token.size) 1 ++ numS m.code 1 ++ numS m.id 2 ++ m.token := ⟨_, rfl⟩
    have hXs : X.size ≤ 20 := by rw [hX]; simp only [ByteArray.size_append]; omega
    have HENC2 : Hid (ENC = X ++ optsS 0 m.opts ++ paylS m.payload) := by
      show _ = _
      rw [← HENC.out, hX, encM, Int.mul_comm 16 m.kind]
    rw [← hX]
    clear hX HENC HX HBc x1 z1 z2 z3 N1 N2 N3 hw1 hw2 hw3
    have x1 := HW.out.1.cell
    go_upto_region 3 with fail
    clear x1
    go_loopw [3, 4] (fun q ix wr => ∃ n : Nat, n ≤ m.opts.length ∧ ix = .int .i64 n ∧ q = .string (X ++ optsS 0 (m.opts.take n)) ∧ Hid (Ma w.heap.size m (.slice ao m.opts.length co) wr ∧ Below w.heap.size w wr)) (fun _ ix _ => m.opts.length - (intOf ix).toNat)
    case atStart => exact ⟨0, by omega, rfl, by rw [show optsS 0 (m.opts.take 0) = ⟨#[]⟩ from rfl, mb_nil], HW⟩
    case round =>
      obtain ⟨n, hn', rfl, rfl, HR⟩ := hrel
      have x1 := HR.out.1.cell
      have hsz : (optsS 0 (m.opts.take n)).size ≤ 864 := by
        have h1 := optsS_le (m.opts.take n) 0 (fun o ho => optsE_mem HE.out o (List.mem_of_mem_take ho))
        have h2 := List.length_take_le n m.opts
        omega
      by_cases hlt : n < m.opts.length
      · obtain ⟨b, o, rfl, hb, hcell⟩ : ∃ b o, ao = some ⟨b, o, none⟩ ∧ b < w.heap.size ∧ ∀ i (h : i < m.opts.length), w.cell? ⟨b, o + i * 2, none⟩ = some (.int .i64 m.opts[i].1) ∧ w.cell? ⟨b, o + i * 2 + 1, none⟩ = some (.string m.opts[i].2) := by
          rcases HL.out with h | h
          · rw [h] at hlt; simp at hlt
          · exact h
        have hop := optsE_ok m.opts 0 HE.out n hlt
        have hln := lastN_nonneg HE.out n
        have HSN := hide (optsS_snoc 0 m.opts n hlt)
        have HC : Hid (∀ W, Below w.heap.size w W → W.cell? ⟨b, o + n * 2, none⟩ = some (.int .i64 m.opts[n].1) ∧ W.cell? ⟨b, o + n * 2 + 1, none⟩ = some (.string m.opts[n].2)) := fun W h => ⟨(h.cell (p := ⟨b, _, none⟩) hb).trans (hcell n hlt).1, (h.cell (p := ⟨b, _, none⟩) hb).trans (hcell n hlt).2⟩
        have HP : Hid (∀ n', n = n' + 1 → lastN 0 (m.opts.take n) = (m.opts[n - 1]'(by omega)).1 ∧ ∀ W, Below w.heap.size w W → W.cell? ⟨b, o + (n - 1) * 2, none⟩ = some (.int .i64 (m.opts[n - 1]'(by omega)).1)) := fun n' e => by
          subst e
          exact ⟨lastN_snoc 0 m.opts n' (by omega), fun W h => (h.cell (p := ⟨b, _, none⟩) hb).trans (hcell n' (by omega)).1⟩
        have HZ0 : Hid (n = 0 → lastN 0 (m.opts.take n) = 0) := fun e => by subst e; rfl
        clear hcell
        revert hop hln HSN HP HZ0 hsz HC
        generalize lastN 0 (m.opts.take n) = a
        generalize optsS 0 (m.opts.take n) = Y
        generalize m.opts[n] = x
        obtain ⟨u, v⟩ := x
        simp only
        intro hsz hop hln HSN HC HP HZ0
        obtain ⟨⟨u1, u2⟩, hau, hv⟩ := hop
        have hv' : (v.size : Int) ≤ 60 := by omega
        obtain ⟨hc1, hc2⟩ := HC.out _ HR.out.2
        go_upto_if 38 with fail
        go_cut [5] (fun q wx => q = .int .i64 a ∧ wx = wr)
        case first =>
          cases n with
          | zero =>
            have ha := HZ0.out rfl
            subst ha
            go_wp2_with fail
            go_meet
            case rel => exact ⟨rfl, rfl⟩
          | succ n' =>
            obtain ⟨ha, hpc⟩ := HP.out n' rfl
            have hpc := hpc _ HR.out.2
            simp only [Nat.add_sub_cancel] at ha hpc
            have HA := hide ha
            revert HA hpc
            generalize (m.opts[n']'(by omega)).1 = pv
            intro hpc HA
            clear ha
            go_wp2_with fail
            go_meet
            case rel => exact ⟨by rw [HA.out], rfl⟩
        case rest =>
          obtain ⟨rfl, rfl⟩ := hcut
          have q1 : 0 ≤ halfN (u - a) ∧ halfN (u - a) ≤ 14 := by unfold halfN; split <;> (try split) <;> omega
          have q2 : 0 ≤ halfN v.size ∧ halfN v.size ≤ 14 := by unfold halfN; split <;> (try split) <;> omega
          have C1 := hide (fun W => halfOf_any (u - a) W (by omega) (by omega))
          have C2 := hide (fun W => halfOf_any v.size W (by omega) (by omega))
          have y2 := half_le4 (u - a)
          have y3 := half_le4 v.size
          have HOP : Hid (optS a (u, v) = numS (16 * halfN (u - a) + halfN v.size) 1 ++ halfS (u - a) ++ halfS v.size ++ v) := by
            show _ = _
            rw [optS, headS, Int.mul_comm 16 (halfN (u - a))]
          clear HP HZ0
          revert C1 C2 q1 q2 y2 y3 HOP
          generalize halfN (u - a) = P
          generalize halfN v.size = Q
          generalize halfS (u - a) = S1
          generalize halfS v.size = S2
          intro q1 q2 C1 C2 y2 y3 HOP
          obtain ⟨q1, q1'⟩ := q1
          obtain ⟨q2, q2'⟩ := q2
          have N4 : Hid (numE (16 * P + Q) 1 = 0) := nuE (k := 1) (.inl rfl) (by omega) (by simp; omega)
          have y1 := mnum_le4 (16 * P + Q) 1
          go_wp2_with fail
          refine (C1.out _).mono ?_
          rintro e w1 ⟨rfl, hb1⟩
          have HR1 : Hid (Ma w.heap.size m (.slice (some ⟨b, o, none⟩) m.opts.length co) w1 ∧ Below w.heap.size w w1) := ⟨HR.out.1.below hb1, below_step HR.out.2 hb1⟩
          have x1 := HR1.out.1.cell
          obtain ⟨hc1, hc2⟩ := HC.out _ HR1.out.2
          clear hb1 HR C1
          go_wp2_with fail
          refine (C2.out _).mono ?_
          rintro e w2 ⟨rfl, hb2⟩
          have HR2 : Hid (Ma w.heap.size m (.slice (some ⟨b, o, none⟩) m.opts.length co) w2 ∧ Below w.heap.size w w2) := ⟨HR1.out.1.below hb2, below_step HR1.out.2 hb2⟩
          have x1 := HR2.out.1.cell
          obtain ⟨hc1, hc2⟩ := HC.out _ HR2.out.2
          clear hb2 HR1 C2
          go_upto_region 10 with fail
          have HF : Hid (X ++ Y ++ (numS (16 * P + Q) 1 ++ S1 ++ S2 ++ v) = X ++ optsS 0 (m.opts.take (n + 1))) := by
            show _ = _
            rw [HSN.out, HOP.out]; simp only [mb_assoc]
          have hw4 : IntKind.i64.wrap (16 * P) = 16 * P := wrap_i64_in _ (by omega) (by omega)
          have hw5 : IntKind.i64.wrap (16 * P + Q) = 16 * P + Q := wrap_i64_in _ (by omega) (by omega)
          have HRD : Hid (Ma w.heap.size m (.slice (some ⟨b, o, none⟩) m.opts.length co) w2.drew ∧ Below w.heap.size w w2.drew) := ⟨HR2.out.1, HR2.out.2.drew⟩
          have hlt' : (n : Int) < m.opts.length := by omega
          go_region_with (go_at_call 18; refine (C.out _ _ _ N4.out).mono ?_; rintro e wx ⟨rfl, hbx⟩; have HRD : Hid (Ma w.heap.size m (.slice (some ⟨b, o, none⟩) m.opts.length co) wx ∧ Below w.heap.size w wx) := ⟨HRD.out.1.below hbx, below_step HRD.out.2 hbx⟩; have x1 := HRD.out.1.cell; have hc1 := (HC.out _ HRD.out.2).1; have hc2 := (HC.out _ HRD.out.2).2; clear hbx)
          all_goals
            go_wp2
            go_round
            case rel => exact ⟨n + 1, by omega, by go_num, by rw [HF.out], HRD⟩
            case measure => simp [intOf]; omega
      · have hke : m.opts.take n = m.opts := List.take_of_length_le (by omega)
        rw [hke] at hsz ⊢
        have hge : (m.opts.length : Int) ≤ n := by omega
        have hZs : (X ++ optsS 0 m.opts).size ≤ 1000 := by rw [ByteArray.size_append]; omega
        clear hke hsz hlt
        revert HENC2 hZs
        generalize X ++ optsS 0 m.opts = Z
        intro HENC2 hZs
        by_cases hp0 : m.payload = ⟨#[]⟩
        · have HXX : Hid (ENC = Z) := by show _ = _; rw [HENC2.out, paylS, if_pos hp0, mb_nil]
          have hbe : (m.payload.toList == []) = true := txt_yes (l := []) hp0
          clear hp0 HENC2
          go_wp2
          go_ret
          exact ⟨by rw [HXX.out]; rfl, HR.out.2⟩
        · have HXX : Hid (ENC = Z ++ (⟨#[255]⟩ ++ m.payload)) := by
            show _ = _
            rw [HENC2.out, paylS, if_neg hp0, show numS 255 1 = ⟨#[255]⟩ by decide +kernel]
          have hbe : (m.payload.toList == []) = false := txt_no (l := []) hp0
          clear hp0 HENC2
          go_wp2
          go_ret
          exact ⟨by rw [HXX.out]; rfl, HR.out.2⟩
end Go.Proofs.Ytedlebkpdejhiac
