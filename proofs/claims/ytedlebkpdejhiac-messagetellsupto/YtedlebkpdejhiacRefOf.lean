/-
  dragomanref.MessageOf: what it answers (bytes of no great size): the walk.
-/
import Derived.Test.YtedlebkpdejhiacRefOfWalk
import Derived.Deep.LoopGhost
namespace Go.Proofs.Ytedlebkpdejhiac
open Go.RowKit Go.PlainAid

set_option maxHeartbeats 8000000 in
set_option maxRecDepth 100000 in
theorem of_any (s : ByteArray) (w : World) (hs : s.size ≤ 1048576) :
    Calls Try.prog 11 #[.string s] w (NewMsg w (decM s) (.int .i64 (decME s))) := by
  have HD0 := hide (of_short (s := s))
  have HD1 := hide (of_form (s := s))
  have HD2 := hide (of_rest (s := s))
  have HDD := hide (of_dec s)
  have HEE : Hid (ofE s = match ofM s with | none => 1 | some m => chkM m) := rfl
  have HDZ : Hid (decME s ≠ 0 → decM s = zeroMg) := fun h => if_neg h
  revert HD0 HD1 HDD HDZ
  generalize decM s = D
  generalize decME s = E
  intro HD0 HD1 HDD HDZ
  have HZ : Hid (Ma w.heap.size zeroMg (.slice none 0 0) (w.alloc (.cells #[.int .i64 0, .int .i64 0, .int .i64 0, .string ⟨#[]⟩, .slice none 0 0, .string ⟨#[]⟩] 24))) := Go.heap_alloc_new w _
  have HB := hide ((Below.refl w.heap.size w).alloc (Nat.le_refl _) (.cells #[.int .i64 0, .int .i64 0, .int .i64 0, .string ⟨#[]⟩, .slice none 0 0, .string ⟨#[]⟩] 24))
  have hsz : (w.alloc (.cells #[.int .i64 0, .int .i64 0, .int .i64 0, .string ⟨#[]⟩, .slice none 0 0, .string ⟨#[]⟩] 24)).heap.size = w.heap.size + 1 := by simp
  go_enter Try.func11, Try.ntmps11
  go_upto_region 1 with fail
  revert HZ HB hsz
  generalize w.alloc (.cells #[.int .i64 0, .int .i64 0, .int .i64 0, .string ⟨#[]⟩, .slice none 0 0, .string ⟨#[]⟩] 24) = W0
  intro HZ HB hsz
  have z0 := HZ.out.cell
  have zf0 := HZ.out.frozen
  simp only [zeroMg] at z0
  by_cases h4 : s.size < 4
  · have h4' : (s.size : Int) < 4 := by omega
    obtain ⟨he, hd⟩ := HD0.out h4
    have HE := hide he
    have HD := hide hd
    clear h4 he hd HD0 HD1 HD2 HDD HDZ HEE
    go_wp2
    exact bodyPost_ret (v := .tuple #[mgV zeroMg none 0, .int .i64 1]) (by simp [results, Try.results11, go_sem, mgV, zeroMg, World.cell?_setCell_same, z0]) rfl (NewMsg.mk HD.out (congrArg _ HE.out) rfl (.inl rfl) (.inl rfl) (HB.out.trans ((six_km0 _ _ _ _ _ _ _ _).below (by omega) (Nat.le_refl _))))
  · have h4' : ¬ (s.size : Int) < 4 := by omega
    have hg4 : 4 ≤ s.size := by omega
    have b0 := bt_nonneg s 0
    have b1 := bt_le s 0
    have hp0 : 0 < s.size := Nat.lt_of_lt_of_le (by decide) hg4
    have i0 := get_bt s 0 hp0
    have hl0 : (0 : Int) < s.size := by omega
    by_cases hf : bt s 0 / 64 ≠ 1 ∨ 8 < bt s 0 % 16 ∨ (s.size : Int) < 4 + bt s 0 % 16
    · obtain ⟨he, hd⟩ := HD1.out hg4 hf
      have HE := hide he
      have HD := hide hd
      clear he hd HD0 HD1 HD2 HDD HDZ HEE h4
      by_cases f1 : bt s 0 / 64 = 1
      · have f1' : (bt s 0 / 64 != 1) = false := by simp [f1]
        by_cases f2 : 8 < bt s 0 % 16
        · have f2' : decide (8 < bt s 0 % 16) = true := by simp; omega
          clear hf f1 f2
          go_wp2
          exact bodyPost_ret (v := .tuple #[mgV zeroMg none 0, .int .i64 1]) (by simp [results, Try.results11, go_sem, mgV, zeroMg, World.cell?_setCell_same, z0]) rfl (NewMsg.mk HD.out (congrArg _ HE.out) rfl (.inl rfl) (.inl rfl) (HB.out.trans ((six_km0 _ _ _ _ _ _ _ _).below (by omega) (Nat.le_refl _))))
        · have f2' : decide (8 < bt s 0 % 16) = false := by simp; omega
          have f3' : decide ((s.size : Int) < 4 + bt s 0 % 16) = true := by simp; omega
          clear hf f1 f2
          go_wp2
          exact bodyPost_ret (v := .tuple #[mgV zeroMg none 0, .int .i64 1]) (by simp [results, Try.results11, go_sem, mgV, zeroMg, World.cell?_setCell_same, z0]) rfl (NewMsg.mk HD.out (congrArg _ HE.out) rfl (.inl rfl) (.inl rfl) (HB.out.trans ((six_km0 _ _ _ _ _ _ _ _).below (by omega) (Nat.le_refl _))))
      · have f1' : (bt s 0 / 64 != 1) = true := by simp [f1]
        clear hf f1
        go_wp2
        exact bodyPost_ret (v := .tuple #[mgV zeroMg none 0, .int .i64 1]) (by simp [results, Try.results11, go_sem, mgV, zeroMg, World.cell?_setCell_same, z0]) rfl (NewMsg.mk HD.out (congrArg _ HE.out) rfl (.inl rfl) (.inl rfl) (HB.out.trans ((six_km0 _ _ _ _ _ _ _ _).below (by omega) (Nat.le_refl _))))
    · have hOF := HD2.out hg4 hf
      have f1' : (bt s 0 / 64 != 1) = false := by simp; omega
      have f2' : decide (8 < bt s 0 % 16) = false := by simp; omega
      have f3' : decide ((s.size : Int) < 4 + bt s 0 % 16) = false := by simp; omega
      have f3 : 4 + bt s 0 % 16 ≤ (s.size : Int) := by omega
      obtain ⟨K, hK⟩ : ∃ K : Nat, (K : Int) = 4 + bt s 0 % 16 := ⟨(4 + bt s 0 % 16).toNat, by omega⟩
      have hKn : 4 + (bt s 0 % 16).toNat = K := by omega
      rw [hKn] at hOF
      have hKK : (4 + bt s 0 % 16).toNat = K := by omega
      have HOF := hide hOF
      have hp1 : 1 < s.size := Nat.lt_of_lt_of_le (by decide) hg4
      have i1 := get_bt s 1 hp1
      have hp2 : 2 < s.size := Nat.lt_of_lt_of_le (by decide) hg4
      have i2 := get_bt s 2 hp2
      have hp3 : 3 < s.size := Nat.lt_of_lt_of_le (by decide) hg4
      have i3 := get_bt s 3 hp3
      have c1 := bt_nonneg s 1
      have c1' := bt_le s 1
      have c2 := bt_nonneg s 2
      have c2' := bt_le s 2
      have c3 := bt_nonneg s 3
      have c3' := bt_le s 3
      clear hf h4 HD0 HD1 HD2 hOF
      have l1 : (1 : Int) < s.size := by omega
      have l2 : (2 : Int) < s.size := by omega
      have l3 : (3 : Int) < s.size := by omega
      have hK4 : (4 : Int) ≤ 4 + bt s 0 % 16 := by omega
      have hw1 : IntKind.i64.wrap (256 * bt s 2) = 256 * bt s 2 := wrap_i64_in _ (by omega) (by omega)
      have hw2 : IntKind.i64.wrap (256 * bt s 2 + bt s 3) = 256 * bt s 2 + bt s 3 := wrap_i64_in _ (by omega) (by omega)
      have hw3 : IntKind.i64.wrap (4 + bt s 0 % 16) = 4 + bt s 0 % 16 := wrap_i64_in _ (by omega) (by omega)
      go_upto_region 8 with fail
      go_region
      have HM1 : Hid (Ma (w.heap.size + 1) ⟨bt s 0 / 16 % 4, bt s 1, 256 * bt s 2 + bt s 3, s.extract 4 K, [], ⟨#[]⟩⟩ (.slice none 0 0) (W0.alloc (.cells #[.int .i64 (bt s 0 / 16 % 4), .int .i64 (bt s 1), .int .i64 (256 * bt s 2 + bt s 3), .string (s.extract 4 K), .slice none 0 0, .string ⟨#[]⟩] 24)).drew) := by
        have := Go.heap_alloc_new W0 (.cells #[.int .i64 (bt s 0 / 16 % 4), .int .i64 (bt s 1), .int .i64 (256 * bt s 2 + bt s 3), .string (s.extract 4 K), .slice none 0 0, .string ⟨#[]⟩] 24)
        rw [hsz] at this; exact this
      have HB1 : Hid (Below w.heap.size w (W0.alloc (.cells #[.int .i64 (bt s 0 / 16 % 4), .int .i64 (bt s 1), .int .i64 (256 * bt s 2 + bt s 3), .string (s.extract 4 K), .slice none 0 0, .string ⟨#[]⟩] 24)).drew) := (HB.out.alloc (by omega) _).drew
      have HZ1 : Hid (Ma w.heap.size zeroMg (.slice none 0 0) (W0.alloc (.cells #[.int .i64 (bt s 0 / 16 % 4), .int .i64 (bt s 1), .int .i64 (256 * bt s 2 + bt s 3), .string (s.extract 4 K), .slice none 0 0, .string ⟨#[]⟩] 24)).drew) := HZ.out.below (Below.drew ((Below.refl _ W0).alloc (Nat.le_refl _) _))
      have hsz1 : (W0.alloc (.cells #[.int .i64 (bt s 0 / 16 % 4), .int .i64 (bt s 1), .int .i64 (256 * bt s 2 + bt s 3), .string (s.extract 4 K), .slice none 0 0, .string ⟨#[]⟩] 24)).drew.heap.size = w.heap.size + 2 := by simp [hsz]
      all_goals
        go_upto_region 11 with fail
        have hKs : K ≤ s.size := by omega
        revert HM1 HB1 HZ1 hsz1 HOF
        generalize (W0.alloc (.cells #[.int .i64 (bt s 0 / 16 % 4), .int .i64 (bt s 1), .int .i64 (256 * bt s 2 + bt s 3), .string (s.extract 4 K), .slice none 0 0, .string ⟨#[]⟩] 24)).drew = W1
        generalize s.extract 4 K = t0
        generalize bt s 0 / 16 % 4 = k0
        generalize bt s 1 = d0 at *
        generalize 256 * bt s 2 + bt s 3 = j0 at *
        generalize hR0 : xOpts ((lf s K).size + 1) (lf s K) 0 [] = R at *
        intro HOF HM1 HB1 HZ1 hsz1
        have HR0 := hide hR0
        clear hR0
        rw [← hK]
        clear hK
        have HSC : Hid (s.size ≤ 1048576) := hs
        clear i0 i1 i2 i3 b0 b1 c1 c1' c2 c2' c3 c3' f1' f2' f3' f3 hw1 hw2 hw3 l1 l2 l3 hK4 hKn hKK z0 zf0 HB HZ
        go_loopg [8, 9] ((lf s K).size + 1) (fun f at_ was wr => ∃ (k : Nat) (n : Int) (acc : List (Int × ByteArray)) (ao : Option Addr) (co : Nat), at_ = .int .i64 k ∧ was = .int .i64 n ∧ k ≤ s.size ∧ 0 ≤ n ∧ n + 21935 * (lf s k).size ≤ 21935 * s.size ∧ acc.length + (lf s k).size ≤ s.size ∧ w.heap.size + 2 ≤ wr.heap.size ∧ Hid (Ma (w.heap.size + 1) ⟨k0, d0, j0, t0, [], ⟨#[]⟩⟩ (.slice ao acc.length co) wr ∧ wr.ownsRow (w.heap.size + 2) 26 2 (.slice ao acc.length co) acc.length (optCells acc) ∧ Ma w.heap.size zeroMg (.slice none 0 0) wr ∧ Below w.heap.size w wr ∧ xOpts f (lf s k) n acc = R ∧ (lf s k).size < f))
        case atStart => exact ⟨K, 0, [], none, 0, rfl, rfl, by omega, by omega, by rw [lf_size]; omega, by rw [lf_size]; simp, by omega, HM1.out, World.ownsRow_nil _ _ _ _, HZ1.out, HB1.out, HR0.out, by omega⟩
        case round =>
          obtain ⟨k, n, acc, ao, co, rfl, rfl, hk, hn0, hn1, hacc, hsr, HI⟩ := hrel
          obtain ⟨i0, hi, hz0, hz1, hz2⟩ := info_parts (show (Try.prog.info? 26).map (fun i => (i.zero, i.size, i.bytes)) = some (some (.agg #[.int .i64 0, .string ⟨#[]⟩]), 2, 24) by kernel_rfl)
          have hlz := lf_size s k
          obtain ⟨f, hf⟩ : ∃ f, gk = f + 1 := ⟨gk - 1, by have := HI.out.2.2.2.2.2; omega⟩
          have HF := hide hf
          have HX : Hid (xOpts (f + 1) (lf s k) n acc = R ∧ (lf s k).size < f + 1) := by have := HI.out.2.2.2.2; rw [hf] at this; exact this
          clear hf
          have z1 := HI.out.2.2.1.cell
          have zf1 := HI.out.2.2.1.frozen
          have m1 := HI.out.1.cell
          have mf1 := HI.out.1.frozen
          simp only [zeroMg] at z1
          simp only at m1
          by_cases hlt : k < s.size
          · have hlt' : (k : Int) < s.size := by omega
            have ix := get_bt s k hlt
            have c0 := bt_nonneg s k
            have c1 := bt_le s k
            have hl0 : ¬ (lf s k).size = 0 := by omega
            have HX1 : Hid ((if bt s k = 255 then (if (lf s k).size = 1 then none else some (acc, tkL (lf s k) 1)) else if oBad (lf s k) false = true then none else xOpts f (oLeft (lf s k)) (n + oMore (lf s k)) (acc ++ [(n + oMore (lf s k), oVal (lf s k))])) = R) := by
              have := HX.out.1
              rw [xOpts, if_neg hl0, bt_lf s k hlt] at this
              exact this
            by_cases h255 : bt s k = 255
            · have h255' : (bt s k == 255) = true := by simp [h255]
              have HX2 : Hid (_ = R) := (if_pos h255).symm.trans HX1.out
              clear HX1 h255
              by_cases hone : (lf s k).size = 1
              · have HT : Hid (R = none) := by rw [← HX2.out, if_pos hone]; exact rfl
                have HMM : Hid (ofM s = none) := by show _ = _; rw [HOF.out, HT.out]; rfl
                have HE : Hid (E = 1) := by show _ = _; rw [← HDD.out.1, HEE.out, HMM.out]
                have HD := hide (HDZ.out (by rw [HE.out]; decide))
                have hP : s.extract (k + 1) s.size = ⟨#[]⟩ := ByteArray.size_eq_zero_iff.1 (by rw [ByteArray.size_extract]; omega)
                have hk1 : ((k : Int) + 1).toNat = k + 1 := by omega
                have hk2 : (k : Int) + 1 ≤ s.size := by omega
                have hk3 : IntKind.i64.wrap ((k : Int) + 1) = k + 1 := wrap_i64_in _ (by omega) (by omega)
                have HB5 : Hid (Below w.heap.size w (wr.setCell ⟨w.heap.size + 1, 5, none⟩ (.string ⟨#[]⟩))) := HI.out.2.2.2.1.setCell (by show w.heap.size ≤ w.heap.size + 1; omega) _
                have HZ5 : Hid (Ma w.heap.size zeroMg (.slice none 0 0) (wr.setCell ⟨w.heap.size + 1, 5, none⟩ (.string ⟨#[]⟩))) := by
                  have := HI.out.2.2.1; unfold Ma at *; show _ = _; rw [Below.heap_setCell _ _ _ _ (by show w.heap.size ≠ w.heap.size + 1; omega)]; exact this
                have hsz5 : (wr.setCell ⟨w.heap.size + 1, 5, none⟩ (.string ⟨#[]⟩)).heap.size = wr.heap.size := by simp [World.setCell]
                have z5 := HZ5.out.cell
                have zf5 := HZ5.out.frozen
                simp only [zeroMg] at z5
                clear HX HX2 HT HMM HOF HDD HEE HDZ HI hone HF z1 zf1
                go_wp2
                exact bodyPost_ret (v := .tuple #[mgV zeroMg none 0, .int .i64 1]) (by simp [results, Try.results11, go_sem, mgV, zeroMg, World.cell?_setCell_same, z5]) rfl (NewMsg.mk HD.out (congrArg _ HE.out) rfl (.inl rfl) (.inl rfl) (HB5.out.trans ((six_km0 _ _ _ _ _ _ _ _).below (by omega) (Nat.le_refl _))))
              · have HT : Hid (R = some (acc, lf s (k + 1))) := by show _ = _; rw [← HX2.out, if_neg hone, tkL_lf s k 1 (by omega)]
                have hk1 : ((k : Int) + 1).toNat = k + 1 := by omega
                have hk2 : (k : Int) + 1 ≤ s.size := by omega
                have hk3 : IntKind.i64.wrap ((k : Int) + 1) = k + 1 := wrap_i64_in _ (by omega) (by omega)
                have hP : ((s.extract (k + 1) s.size).toList == []) = false := txt_no (l := []) (fun e => by have := congrArg ByteArray.size e; rw [ByteArray.size_extract] at this; have h0 : (ByteArray.size ⟨#[]⟩) = 0 := rfl; have h1 : (⟨([] : List UInt8).toArray⟩ : ByteArray).size = 0 := rfl; omega)
                have HM_ : Hid (Ma (w.heap.size + 1) ⟨k0, d0, j0, t0, acc, lf s (k + 1)⟩ (.slice ao acc.length co) (wr.setCell ⟨w.heap.size + 1, 5, none⟩ (.string (lf s (k + 1))))) := HI.out.1.set5 _
                have HI_ : Hid (OptsIn (wr.setCell ⟨w.heap.size + 1, 5, none⟩ (.string (lf s (k + 1)))) ao acc) := (own_opts (mown_kept HI.out.2.1 fun g hg => Below.heap_setCell _ _ _ _ (by show g ≠ w.heap.size + 1; have := (mown_lt HI.out.2.1 g hg).1; omega))).1
                have HFr_ : Hid (acc = [] ∨ ∃ g o, ao = some ⟨g, o, none⟩ ∧ w.heap.size < g) := by
                  rcases (own_opts HI.out.2.1).2 with hx | ⟨g, o, ha, hg⟩
                  · exact .inl hx
                  · exact .inr ⟨g, o, ha, by omega⟩
                have HB_ : Hid (Below w.heap.size w (wr.setCell ⟨w.heap.size + 1, 5, none⟩ (.string (lf s (k + 1))))) := HI.out.2.2.2.1.setCell (by show w.heap.size ≤ w.heap.size + 1; omega) _
                have HZ_ : Hid (Ma w.heap.size zeroMg (.slice none 0 0) (wr.setCell ⟨w.heap.size + 1, 5, none⟩ (.string (lf s (k + 1))))) := by
                  have := HI.out.2.2.1; unfold Ma at *; show _ = _; rw [Below.heap_setCell _ _ _ _ (by show w.heap.size ≠ w.heap.size + 1; omega)]; exact this
                have hsz5 : ∀ v, (wr.setCell ⟨w.heap.size + 1, 5, none⟩ v).heap.size = wr.heap.size := fun v => by simp [World.setCell]
                have hlf : s.extract (k + 1) s.size = lf s (k + 1) := rfl
                rw [hlf] at hP
                clear HX HX2 HI hone HF z1 zf1
                generalize lf s (k + 1) = PL at hlf hP HT HM_ HI_ HB_ HZ_
                have hsz6 : (wr.setCell ⟨w.heap.size + 1, 5, none⟩ (.string PL)).heap.size = wr.heap.size := hsz5 _
                have m5 := HM_.out.cell
                simp only at m5
                have HMM : Hid (ofM s = some ⟨k0, d0, j0, t0, acc, PL⟩) := by show _ = _; rw [HOF.out, HT.out]; rfl
                have HEQ : Hid (E = chkM ⟨k0, d0, j0, t0, acc, PL⟩) := by show _ = _; rw [← HDD.out.1, HEE.out, HMM.out]
                have HDQ : Hid (E = 0 → D = ⟨k0, d0, j0, t0, acc, PL⟩) := fun h => by have := HDD.out.2 h; rw [HMM.out] at this; exact (Option.some.inj this).symm
                have CC : Hid (∀ W, OptsIn W ao acc → Calls Try.prog 9 #[.agg #[.int .i64 k0, .int .i64 d0, .int .i64 j0, .string t0, .slice ao acc.length co, .string (PL)]] W fun e w' => e = .returned (.int .i64 (chkM ⟨k0, d0, j0, t0, acc, PL⟩)) ∧ Below W.heap.size W w') := fun W h => rcheck_any ⟨k0, d0, j0, t0, acc, PL⟩ ao co W h
                revert HEQ HDQ CC
                generalize chkM ⟨k0, d0, j0, t0, acc, PL⟩ = E'
                intro HEQ HDQ CC
                clear HMM HOF HDD HEE HT
                have m8 := HM_.out.cell
                simp only at m8
                go_wp2_with fail
                refine (CC.out _ HI_.out).mono ?_
                rintro e w9 ⟨rfl, hb9⟩
                have HZ9 := hide (HZ_.out.below hb9)
                have HM9 := hide (HM_.out.below hb9)
                have HI9 := hide (HI_.out.below hb9)
                have HB9 := hide (below_step HB_.out hb9)
                have hs9 := hb9.size
                have z9 := HZ9.out.cell
                have zf9 := HZ9.out.frozen
                have m9 := HM9.out.cell
                simp only [zeroMg] at z9
                simp only at m9
                clear hb9 HZ_ HM_ HI_ HB_ m8 CC
                by_cases k9 : E' = 0
                · have k9' : (E' != 0) = false := by simp [k9]
                  have HD := hide (HDQ.out (by rw [HEQ.out]; exact k9))
                  have HE : Hid (E = 0) := HEQ.out.trans k9
                  subst k9
                  clear HDQ HEQ HDZ
                  go_wp2
                  exact bodyPost_ret (v := .tuple #[mgV ⟨k0, d0, j0, t0, acc, PL⟩ ao co, .int .i64 0]) (by simp [results, Try.results11, go_sem, mgV, World.cell?_setCell_same, z9]) rfl (NewMsg.mk HD.out (congrArg _ HE.out) rfl (km_opts HI9.out (six_km0 _ _ _ _ _ _ _ _) HFr_.out) (by rcases HFr_.out with hx | ⟨g, o, ha, hg⟩; exact .inl hx; exact .inr ⟨g, o, ha, by omega⟩) (HB9.out.trans ((six_km0 _ _ _ _ _ _ _ _).below (by omega) (Nat.le_refl _))))
                · have k9' : (E' != 0) = true := by simp [k9]
                  have HE := HEQ
                  have HD := hide (HDZ.out (by rw [HEQ.out]; exact k9))
                  clear HDQ HEQ HDZ k9
                  go_wp2
                  exact bodyPost_ret (v := .tuple #[mgV zeroMg none 0, .int .i64 E']) (by simp [results, Try.results11, go_sem, mgV, zeroMg, World.cell?_setCell_same, z9]) rfl (NewMsg.mk HD.out (congrArg _ HE.out) rfl (.inl rfl) (.inl rfl) (HB9.out.trans ((six_km0 _ _ _ _ _ _ _ _).below (by omega) (Nat.le_refl _))))
            · have h255' : (bt s k == 255) = false := by simp [h255]
              have HX2 : Hid (_ = R) := (if_neg h255).symm.trans HX1.out
              have HB_ := hide HI.out.2.2.2.1
              have hk3 : IntKind.i64.wrap ((k : Int) + 1) = k + 1 := wrap_i64_in _ (by omega) (by omega)
              have C1 : Hid (∀ W, Calls Try.prog 20 #[.string s, .int .i64 ((k : Int) + 1), .int .i64 (bt s k / 16)] W (HalfPost s (k + 1) (bt s k / 16) W)) := fun W => halfAt_any s (k + 1) (bt s k / 16) W (by omega) (by omega) (by omega) (by omega)
              clear HX1 h255
              obtain ⟨r1, r2, r3, r4⟩ := am_range (lf s (k + 1)) (bt s k / 16) (by omega) (by omega)
              go_wp2_with fail
              refine (C1.out _).mono ?_
              rintro e wx ⟨X, Y, rfl, hX, hwx⟩
              subst wx
              generalize hB1 : amB (lf s (k + 1)) (bt s k / 16) false = B1 at hX ⊢
              cases B1 with
              | true =>
                have HT : Hid (R = none) := by show _ = _; rw [← HX2.out, if_pos (o_bad1 hlt hB1)]
                have HMM : Hid (ofM s = none) := by show _ = _; rw [HOF.out, HT.out]; rfl
                have HE : Hid (E = 1) := by show _ = _; rw [← HDD.out.1, HEE.out, HMM.out]
                have HD := hide (HDZ.out (by rw [HE.out]; decide))
                clear HX HX2 HT HMM HOF HDD HEE HDZ HI HF hX hB1 r1 r2 r3 r4 C1 m1 mf1 hlz hn1 hacc
                go_wp2
                exact bodyPost_ret (v := .tuple #[mgV zeroMg none 0, .int .i64 1]) (by simp [results, Try.results11, go_sem, mgV, zeroMg, World.cell?_setCell_same, z1]) rfl (NewMsg.mk HD.out (congrArg _ HE.out) rfl (.inl rfl) (.inl rfl) (HB_.out.trans ((six_km0 _ _ _ _ _ _ _ _).below (by omega) (Nat.le_refl _))))
              | false =>
                obtain ⟨hXX, k2, hY, hk2, hL⟩ := hX rfl
                subst hY
                have C2 : Hid (∀ W, Calls Try.prog 20 #[.string s, .int .i64 k2, .int .i64 (bt s k % 16)] W (HalfPost s k2 (bt s k % 16) W)) := fun W => halfAt_any s k2 (bt s k % 16) W (by omega) hk2 (by omega) (by omega)
                obtain ⟨q1, q2, q3, q4⟩ := am_range (lf s k2) (bt s k % 16) (by omega) (by omega)
                rw [← hXX] at r1 r2 r4
                have HXX := hide hXX
                have HL1 := hide hL
                clear hXX hX hL C1
                go_wp2_with fail
                refine (C2.out _).mono ?_
                rintro e wx ⟨X2, Y2, rfl, hX2, hwx⟩
                subst wx
                generalize hB2 : amB (lf s k2) (bt s k % 16) false = B2 at hX2 ⊢
                cases B2 with
                | true =>
                  have HT : Hid (R = none) := by show _ = _; rw [← HX2.out, if_pos (o_bad2 hlt hB1 HL1.out hB2)]
                  have HMM : Hid (ofM s = none) := by show _ = _; rw [HOF.out, HT.out]; rfl
                  have HE : Hid (E = 1) := by show _ = _; rw [← HDD.out.1, HEE.out, HMM.out]
                  have HD := hide (HDZ.out (by rw [HE.out]; decide))
                  clear HX HX2 HT HMM HOF HDD HEE HDZ HI HF hX2 hB1 hB2 r1 r2 r3 r4 q1 q2 q3 q4 C2 m1 mf1 hlz hn1 hacc
                  go_wp2
                  exact bodyPost_ret (v := .tuple #[mgV zeroMg none 0, .int .i64 1]) (by simp [results, Try.results11, go_sem, mgV, zeroMg, World.cell?_setCell_same, z1]) rfl (NewMsg.mk HD.out (congrArg _ HE.out) rfl (.inl rfl) (.inl rfl) (HB_.out.trans ((six_km0 _ _ _ _ _ _ _ _).below (by omega) (Nat.le_refl _))))
                | false =>
                  obtain ⟨hXX2, k3, hY2, hk3s, hL2⟩ := hX2 rfl
                  subst hY2
                  rw [← hXX2] at q1 q2 q4
                  obtain ⟨p1, p2, p3, p4⟩ := o_parts hlt hB1 HL1.out hB2 hL2 hk3s
                  rw [← HXX.out] at p1
                  rw [← hXX2] at p2 p4
                  clear hXX2 hX2 hL2 HL1 C2 HXX
                  have hw1 : IntKind.i64.wrap ((s.size : Int) - k3) = (s.size : Int) - k3 := wrap_i64_in _ (by omega) (by omega)
                  by_cases hfit : s.size < k3 + X2.toNat
                  · have hfit' : (s.size : Int) - k3 < X2 := by omega
                    have HT : Hid (R = none) := by show _ = _; rw [← HX2.out, if_pos (by rw [p4]; exact decide_eq_true hfit)]
                    have HMM : Hid (ofM s = none) := by show _ = _; rw [HOF.out, HT.out]; rfl
                    have HE : Hid (E = 1) := by show _ = _; rw [← HDD.out.1, HEE.out, HMM.out]
                    have HD := hide (HDZ.out (by rw [HE.out]; decide))
                    clear HX HX2 HT HMM HOF HDD HEE HDZ HI HF hB1 hB2 r1 r2 r3 r4 q1 q2 q3 q4 p1 p2 p3 p4 m1 mf1 hlz hn1 hacc
                    go_wp2
                    exact bodyPost_ret (v := .tuple #[mgV zeroMg none 0, .int .i64 1]) (by simp [results, Try.results11, go_sem, mgV, zeroMg, World.cell?_setCell_same, z1]) rfl (NewMsg.mk HD.out (congrArg _ HE.out) rfl (.inl rfl) (.inl rfl) (HB_.out.trans ((six_km0 _ _ _ _ _ _ _ _).below (by omega) (Nat.le_refl _))))
                  · have hfit' : decide ((s.size : Int) - k3 < X2) = false := by simp; omega
                    obtain ⟨k4, hk4⟩ : ∃ k4 : Nat, (k4 : Int) = k3 + X2 := ⟨k3 + X2.toNat, by omega⟩
                    have hk4n : k3 + X2.toNat = k4 := by omega
                    have hk4s : k4 ≤ s.size := by omega
                    have hk34 : k3 ≤ k4 := by omega
                    have o := o_range (lf s k) (by omega)
                    have e1 : oVal (lf s k) = s.extract k3 k4 := by unfold oVal; rw [p3, p2, tk_lf s k3 _ (by omega), hk4n]
                    have e2 : oLeft (lf s k) = lf s k4 := by unfold oLeft; rw [p3, p2, tkL_lf s k3 _ (by omega), hk4n]
                    have HX3 : Hid (xOpts f (lf s k4) (n + X) (acc ++ [(n + X, s.extract k3 k4)]) = R) := by
                      show _ = _
                      rw [← HX2.out, if_neg (by rw [p4]; simp; omega), e1, e2, p1]
                    have hlz4 := lf_size s k4
                    rw [e2, p1] at o
                    obtain ⟨_, _, o3, o4, _⟩ := o
                    have hwA : IntKind.i64.wrap (n + X) = n + X := wrap_i64_in _ (by omega) (by omega)
                    have hwB : IntKind.i64.wrap ((k3 : Int) + X2) = k4 := (wrap_i64_in _ (by omega) (by omega)).trans hk4.symm
                    have hwC : (k3 : Int) ≤ k4 := by omega
                    have hwD : (k4 : Int) ≤ s.size := by omega
                    generalize hV : s.extract k3 k4 = V at *
                    generalize hN1 : n + X = N1 at *
                    clear hk4 hk4n hfit p1 p2 p3 p4 e1 e2 q1 q2 q3 q4 r3 hB1 hB2 HX2
                    have m4 : wr.cell? ⟨w.heap.size + 1, 4, none⟩ = some (.slice ao acc.length co) := HI.out.1.cell 4
                    have mf4 : wr.frozen? ⟨w.heap.size + 1, 4, none⟩ = false := HI.out.1.frozen 4
                    have HO3 := hide HI.out.2.1
                    have HM3 := hide HI.out.1
                    have HZ3 := hide HI.out.2.2.1
                    have hs3 : w.heap.size + 1 < wr.heap.size := by omega
                    have hs4 : w.heap.size + 1 ≠ wr.heap.size := by omega
                    have hs5 : wr.heap.size ≠ w.heap.size + 1 := by omega
                    have H63 : Hid (acc.length + 1 ≤ maxLen) := by show _ ≤ _; unfold maxLen; omega
                    have H47 : Hid ((acc.length + 1) * 24 ≤ 140737488355328) := by show _ ≤ _; omega
                    have HNP : Hid ((Value.slice ao acc.length co).ownBlock ≠ some (w.heap.size + 1)) := fun e => by have := (mown_lt HO3.out _ e).1; omega
                    have HNZ : Hid ((Value.slice ao acc.length co).ownBlock ≠ some w.heap.size) := fun e => by have := (mown_lt HO3.out _ e).1; omega
                    have HC12 : Hid ((wr.drew.alloc (.cells #[.int .i64 N1, .string V] 26)).cell? ⟨w.heap.size + 1, 4, none⟩ = some (.slice ao acc.length co)) := (World.cell?_alloc_old _ _ _ (by show w.heap.size + 1 ≠ wr.heap.size; omega)).trans m4
                    have HF12 : Hid ((wr.drew.alloc (.cells #[.int .i64 N1, .string V] 26)).frozen? ⟨w.heap.size + 1, 4, none⟩ = false) := (World.frozen?_alloc_old _ _ _ (by show w.heap.size + 1 ≠ wr.heap.size; omega)).trans mf4
                    have HSZ : Hid ((lf s k).size < f + 1) := HX.out.2
                    have HAC : Hid (acc.length + (lf s k).size ≤ s.size ∧ 0 ≤ N1 ∧ N1 + 21935 * (lf s k4).size ≤ 21935 * s.size ∧ (lf s k4).size < (lf s k).size) := by refine ⟨hacc, by omega, by omega, o3⟩
                    clear HX HI m1 mf1 z1 zf1
                    go_upto_region 24 with fail
                    go_region_law (refine step_append_lies _ rfl (.tmp 122) (.tmp 131) 22 rfl (w.heap.size + 2) 26 i0 (.agg #[.int .i64 0, .string ⟨#[]⟩]) 2 24 Try.underlying22 hi hz0 hz1 hz2 rfl (by decide) (.slice ao acc.length co) acc.length (optCells acc) (by simp [Act.eval]) (World.ownsRow.alloc (w := wr.drew) HO3.out _) ⟨wr.heap.size, 0, none⟩ 1 1 [.int .i64 N1, .string V] (by simp [Act.eval]) rfl (World.news_of_block (w := wr.drew.alloc _) (B := wr.heap.size) (Go.heap_alloc_new wr.drew _)) (by simp [Value.oneCell']) (by decide) H63.out H47.out (by simp; omega) (wr.heap.size + 1) (by simp) ?_; intro g cap' w4 hown4 hgrow4 hat4 hlt4; have k1 : w4.cell? ⟨w.heap.size + 1, 4, none⟩ = some (.slice ao acc.length co) := (hgrow4.cell_far ⟨w.heap.size + 1, 4, none⟩ (by simp; omega) (fun e => HNP.out e.symm)).trans HC12.out; have k2 : w4.frozen? ⟨w.heap.size + 1, 4, none⟩ = false := (hgrow4.frozen_far ⟨w.heap.size + 1, 4, none⟩ (by simp; omega) (fun e => HNP.out e.symm)).trans HF12.out)
                    all_goals
                      have hgp : w.heap.size + 1 < g := by
                        rcases hat4 with hat4 | hat4
                        · have := (mown_lt HO3.out _ hat4).1; omega
                        · omega
                      have jz := hgrow4.size
                      simp at jz
                      have j3 : w4.heap[w.heap.size + 1]? = wr.heap[w.heap.size + 1]? := (hgrow4.block (w.heap.size + 1) (by simp; omega) (fun e => HNP.out e.symm)).trans (Below.heap_alloc _ _ _ (by show w.heap.size + 1 < wr.heap.size; omega))
                      have j4 : w4.heap[w.heap.size]? = wr.heap[w.heap.size]? := (hgrow4.block w.heap.size (by simp; omega) (fun e => HNZ.out e.symm)).trans (Below.heap_alloc _ _ _ (by show w.heap.size < wr.heap.size; omega))
                      have j5 : Hid (Below w.heap.size w w4) := Below.grown (HB_.out.drew.alloc (by show w.heap.size ≤ wr.heap.size; omega) _) hgrow4 (by simp; omega) (fun b hb => by have := (mown_lt HO3.out b hb).1; omega)
                      have HN : Hid (Ma (w.heap.size + 1) ⟨k0, d0, j0, t0, [], ⟨#[]⟩⟩ (.slice (some ⟨g, 0, none⟩) (acc ++ [(N1, V)]).length cap') (w4.setCell ⟨w.heap.size + 1, 4, none⟩ (.slice (some ⟨g, 0, none⟩) (acc.length + 1) cap')) ∧ (w4.setCell ⟨w.heap.size + 1, 4, none⟩ (.slice (some ⟨g, 0, none⟩) (acc.length + 1) cap')).ownsRow (w.heap.size + 2) 26 2 (.slice (some ⟨g, 0, none⟩) (acc ++ [(N1, V)]).length cap') (acc ++ [(N1, V)]).length (optCells (acc ++ [(N1, V)])) ∧ Ma w.heap.size zeroMg (.slice none 0 0) (w4.setCell ⟨w.heap.size + 1, 4, none⟩ (.slice (some ⟨g, 0, none⟩) (acc.length + 1) cap')) ∧ Below w.heap.size w (w4.setCell ⟨w.heap.size + 1, 4, none⟩ (.slice (some ⟨g, 0, none⟩) (acc.length + 1) cap')) ∧ xOpts f (lf s k4) N1 (acc ++ [(N1, V)]) = R ∧ (lf s k4).size < f) := by
                        refine ⟨?_, ?_, ?_, j5.out.setCell (by show w.heap.size ≤ w.heap.size + 1; omega) _, HX3.out, by have := HSZ.out; have := HAC.out.2.2.2; omega⟩
                        · rw [List.length_append]
                          exact Ma.set4 (show Ma (w.heap.size + 1) _ _ w4 from j3.trans HM3.out) _
                        · rw [optCells_append, List.length_append]
                          exact mown_kept hown4 fun b hb => Below.heap_setCell _ _ _ _ (by simp only [Value.ownBlock, Option.some.injEq] at hb; subst hb; show g ≠ w.heap.size + 1; omega)
                        · show _ = _
                          rw [Below.heap_setCell _ _ _ _ (by show w.heap.size ≠ w.heap.size + 1; omega)]
                          exact j4.trans HZ3.out
                      have j6 : w.heap.size + 2 ≤ (w4.setCell ⟨w.heap.size + 1, 4, none⟩ (.slice (some ⟨g, 0, none⟩) (acc.length + 1) cap')).heap.size := by simp [World.setCell]; omega
                      have HL4 := hide hlz4
                      clear j3 j4 j5 hgrow4 hown4 hat4 hlt4 k1 k2 HO3 HM3 HZ3 HC12 HF12 HNP HNZ HX3 HSZ m4 mf4
                      go_wp2
                      go_roundg f
                      case measure => have := HF.out; omega
                      case rel => exact ⟨k4, N1, _, _, _, rfl, rfl, hk4s, HAC.out.2.1, HAC.out.2.2.1, by have := HAC.out; rw [List.length_append]; simp; omega, j6, HN⟩
          · have HT : Hid (R = some (acc, ⟨#[]⟩)) := by have := HX.out.1; rw [xOpts, if_pos (by omega)] at this; exact this.symm
            have hge : (s.size : Int) ≤ k := by omega
            have HM_ : Hid (Ma (w.heap.size + 1) ⟨k0, d0, j0, t0, acc, ⟨#[]⟩⟩ (.slice ao acc.length co) wr) := HI.out.1
            have HI_ := hide (own_opts HI.out.2.1).1
            have HFr_ : Hid (acc = [] ∨ ∃ g o, ao = some ⟨g, o, none⟩ ∧ w.heap.size < g) := by
              rcases (own_opts HI.out.2.1).2 with hx | ⟨g, o, ha, hg⟩
              · exact .inl hx
              · exact .inr ⟨g, o, ha, by omega⟩
            have HZ_ := hide HI.out.2.2.1
            have HB_ := hide HI.out.2.2.2.1
            clear hlt z1 zf1 mf1 HX HI m1
            have HMM : Hid (ofM s = some ⟨k0, d0, j0, t0, acc, ⟨#[]⟩⟩) := by show _ = _; rw [HOF.out, HT.out]; rfl
            have HEQ : Hid (E = chkM ⟨k0, d0, j0, t0, acc, ⟨#[]⟩⟩) := by show _ = _; rw [← HDD.out.1, HEE.out, HMM.out]
            have HDQ : Hid (E = 0 → D = ⟨k0, d0, j0, t0, acc, ⟨#[]⟩⟩) := fun h => by have := HDD.out.2 h; rw [HMM.out] at this; exact (Option.some.inj this).symm
            have CC : Hid (∀ W, OptsIn W ao acc → Calls Try.prog 9 #[.agg #[.int .i64 k0, .int .i64 d0, .int .i64 j0, .string t0, .slice ao acc.length co, .string (⟨#[]⟩)]] W fun e w' => e = .returned (.int .i64 (chkM ⟨k0, d0, j0, t0, acc, ⟨#[]⟩⟩)) ∧ Below W.heap.size W w') := fun W h => rcheck_any ⟨k0, d0, j0, t0, acc, ⟨#[]⟩⟩ ao co W h
            revert HEQ HDQ CC
            generalize chkM ⟨k0, d0, j0, t0, acc, ⟨#[]⟩⟩ = E'
            intro HEQ HDQ CC
            clear HMM HOF HDD HEE HT
            have m1 := HM_.out.cell
            simp only at m1
            go_wp2_with fail
            refine (CC.out _ HI_.out).mono ?_
            rintro e w9 ⟨rfl, hb9⟩
            have HZ9 := hide (HZ_.out.below hb9)
            have HM9 := hide (HM_.out.below hb9)
            have HI9 := hide (HI_.out.below hb9)
            have HB9 := hide (below_step HB_.out hb9)
            have hs9 := hb9.size
            have z9 := HZ9.out.cell
            have zf9 := HZ9.out.frozen
            have m9 := HM9.out.cell
            simp only [zeroMg] at z9
            simp only at m9
            clear hb9 HZ_ HM_ HI_ HB_ m1 CC
            by_cases k9 : E' = 0
            · have k9' : (E' != 0) = false := by simp [k9]
              have HD := hide (HDQ.out (by rw [HEQ.out]; exact k9))
              have HE : Hid (E = 0) := HEQ.out.trans k9
              subst k9
              clear HDQ HEQ HDZ
              go_wp2
              exact bodyPost_ret (v := .tuple #[mgV ⟨k0, d0, j0, t0, acc, ⟨#[]⟩⟩ ao co, .int .i64 0]) (by simp [results, Try.results11, go_sem, mgV, World.cell?_setCell_same, z9]) rfl (NewMsg.mk HD.out (congrArg _ HE.out) rfl (km_opts HI9.out (six_km0 _ _ _ _ _ _ _ _) HFr_.out) (by rcases HFr_.out with hx | ⟨g, o, ha, hg⟩; exact .inl hx; exact .inr ⟨g, o, ha, by omega⟩) (HB9.out.trans ((six_km0 _ _ _ _ _ _ _ _).below (by omega) (Nat.le_refl _))))
            · have k9' : (E' != 0) = true := by simp [k9]
              have HE := HEQ
              have HD := hide (HDZ.out (by rw [HEQ.out]; exact k9))
              clear HDQ HEQ HDZ k9
              go_wp2
              exact bodyPost_ret (v := .tuple #[mgV zeroMg none 0, .int .i64 E']) (by simp [results, Try.results11, go_sem, mgV, zeroMg, World.cell?_setCell_same, z9]) rfl (NewMsg.mk HD.out (congrArg _ HE.out) rfl (.inl rfl) (.inl rfl) (HB9.out.trans ((six_km0 _ _ _ _ _ _ _ _).below (by omega) (Nat.le_refl _))))
end Go.Proofs.Ytedlebkpdejhiac
