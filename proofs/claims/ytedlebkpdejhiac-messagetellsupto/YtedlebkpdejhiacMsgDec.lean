/-
  message.read, Decode: what they answer.
-/
import Derived.Test.YtedlebkpdejhiacMsgDecode
namespace Go.Proofs.Ytedlebkpdejhiac
open Go.RowKit Go.PlainAid

/-- a message that was answered beside v: its options lie in new memory -/
def NewMsg (w : World) (m : Mg) (v : Value) (e : Ending) (w' : World) : Prop :=
  ∃ ao co, e = .returned (.tuple #[mgV m ao co, v]) ∧ OptsIn w' ao m.opts ∧ (m.opts = [] ∨ ∃ g o, ao = some ⟨g, o, none⟩ ∧ w.heap.size ≤ g) ∧ Below w.heap.size w w'

set_option maxHeartbeats 8000000 in
set_option maxRecDepth 100000 in
theorem mread_any (s : ByteArray) (w : World) (hs : s.size ≤ 140737488355328) :
    Calls Try.prog 16 #[.string s] w (NewMsg w (rdM s) (.bool (rdMB s))) := by
  have C : Hid (∀ b W, Rm b s false W → Calls Try.prog 27 #[.pointer (some ⟨b, 0, none⟩)] W (MsgPost b W (rdM s) (!rdMB s))) := fun b W x => message_any b s W hs x
  clear hs
  revert C
  generalize rdM s = m
  generalize rdMB s = B
  intro C
  have HZ : Hid (Ma w.heap.size zeroMg (.slice none 0 0) ((w.alloc (.cells #[.int .i64 0, .int .i64 0, .int .i64 0, .string ⟨#[]⟩, .slice none 0 0, .string ⟨#[]⟩] 24)).alloc (.cells #[.string s, .bool false] 60))) := (Below.heap_alloc _ _ _ (by simp)).trans (Go.heap_alloc_new w _)
  have HR : Hid (Rm (w.heap.size + 1) s false ((w.alloc (.cells #[.int .i64 0, .int .i64 0, .int .i64 0, .string ⟨#[]⟩, .slice none 0 0, .string ⟨#[]⟩] 24)).alloc (.cells #[.string s, .bool false] 60))) := by
    have := Go.heap_alloc_new (w.alloc (.cells #[.int .i64 0, .int .i64 0, .int .i64 0, .string ⟨#[]⟩, .slice none 0 0, .string ⟨#[]⟩] 24)) (.cells #[.string s, .bool false] 60)
    rw [World.size_alloc] at this
    exact this
  have HB := hide (((Below.refl w.heap.size w).alloc (Nat.le_refl _) (.cells #[.int .i64 0, .int .i64 0, .int .i64 0, .string ⟨#[]⟩, .slice none 0 0, .string ⟨#[]⟩] 24)).alloc (by simp) (.cells #[.string s, .bool false] 60))
  have hsz : ((w.alloc (.cells #[.int .i64 0, .int .i64 0, .int .i64 0, .string ⟨#[]⟩, .slice none 0 0, .string ⟨#[]⟩] 24)).alloc (.cells #[.string s, .bool false] 60)).heap.size = w.heap.size + 2 := by simp
  go_enter Try.func16, Try.ntmps16
  go_upto_region 2 with fail
  revert HZ HR HB hsz
  generalize (w.alloc (.cells #[.int .i64 0, .int .i64 0, .int .i64 0, .string ⟨#[]⟩, .slice none 0 0, .string ⟨#[]⟩] 24)).alloc (.cells #[.string s, .bool false] 60) = W0
  intro HZ HR HB hsz
  go_wp2_with fail
  refine (C.out _ _ HR.out).mono ?_
  rintro e w1 ⟨ao, co, LL, rfl, ho1, hfr1, hr1, hk1⟩
  have HZ1 := hide (HZ.out.km hk1 (by omega))
  have HK1 := hide (HB.out.trans (hk1.below (B := w.heap.size) (by omega) (by omega)))
  have hs1 := hk1.size
  have HO1 := hide ho1
  have HFR : Hid (m.opts = [] ∨ ∃ g o, ao = some ⟨g, o, none⟩ ∧ w.heap.size + 1 < g) := by
    rcases hfr1 with hx | ⟨g, o, ha, hg⟩
    · exact .inl hx
    · exact .inr ⟨g, o, ha, by omega⟩
  have HR1 := hide hr1
  clear hk1 ho1 hfr1 hr1 HZ HR HB C
  simp only [mgV]
  have hbx : Below w1.heap.size w1 (w1.alloc (.cells #[.int .i64 m.kind, .int .i64 m.code, .int .i64 m.id, .string m.token, .slice ao m.opts.length co, .string m.payload] 24)) := (Below.refl _ _).alloc (Nat.le_refl _) _
  have HM : Hid (Ma w1.heap.size m (.slice ao m.opts.length co) (w1.alloc (.cells #[.int .i64 m.kind, .int .i64 m.code, .int .i64 m.id, .string m.token, .slice ao m.opts.length co, .string m.payload] 24))) := Go.heap_alloc_new w1 _
  go_upto_region 3 with fail
  revert hbx HM
  generalize w1.alloc (.cells #[.int .i64 m.kind, .int .i64 m.code, .int .i64 m.id, .string m.token, .slice ao m.opts.length co, .string m.payload] 24) = W2
  intro hbx HM
  have HR2 := hide (HR1.out.below hbx)
  have HZ2 := hide (HZ1.out.below hbx)
  have HK2 := hide (below_step HK1.out hbx)
  have HO2 := hide (HO1.out.below hbx)
  have hs2 := hbx.size
  have m2 := HM.out.cell
  have z2 := HZ2.out.cell
  have zf2 := HZ2.out.frozen
  obtain ⟨r0, r1, _, _⟩ := HR2.out.cells
  simp only [zeroMg] at z2
  clear hbx HR1 HZ1 HK1 HO1
  go_region
  all_goals
    go_wp2
    refine bodyPost_ret (v := .tuple #[mgV m ao co, .bool B]) (by simp [results, Try.results16, go_sem, mgV, World.cell?_setCell_same, z2]) rfl ⟨ao, co, rfl, ?_, (by rcases HFR.out with hx | ⟨g, o, ha, hg⟩; exact .inl hx; exact .inr ⟨g, o, ha, by omega⟩), ?_⟩
    · exact km_opts HO2.out (Km.drew (six_km0 _ _ _ _ _ _ _ _)) (by rcases HFR.out with hx | ⟨g, o, ha, hg⟩; exact .inl hx; exact .inr ⟨g, o, ha, by omega⟩)
    · exact HK2.out.trans ((Km.drew (six_km0 _ _ _ _ _ _ _ _)).below (by omega) (Nat.le_refl _))

theorem NewMsg.mk {w w' : World} {D d : Mg} {V v : Value} {e : Ending} {ao : Option Addr} {co : Nat} (hD : D = d) (hV : V = v) (he : e = .returned (.tuple #[mgV d ao co, v])) (ho : OptsIn w' ao d.opts) (hfr : d.opts = [] ∨ ∃ g o, ao = some ⟨g, o, none⟩ ∧ w.heap.size ≤ g) (hb : Below w.heap.size w w') : NewMsg w D V e w' := by
  subst hD; subst hV
  exact ⟨ao, co, he, ho, hfr, hb⟩

set_option maxHeartbeats 8000000 in
set_option maxRecDepth 100000 in
theorem mdecode_any (s : ByteArray) (w : World) (hs : s.size ≤ 140737488355328) :
    Calls Try.prog 8 #[.string s] w (NewMsg w (decM s) (.int .i64 (decME s))) := by
  have C := hide (fun W => mread_any s W hs)
  have CC : Hid (∀ W ao co, OptsIn W ao (rdM s).opts → Calls Try.prog 12 #[mgV (rdM s) ao co] W fun e w' => e = .returned (.int .i64 (chkM (rdM s))) ∧ Below W.heap.size W w') := fun W ao co x => mcheck_any (rdM s) ao co W x
  clear hs
  have HE := hide (show decME s = if rdMB s = false then 1 else chkM (rdM s) from rfl)
  have HD := hide (show decM s = if decME s = 0 then rdM s else zeroMg from rfl)
  revert C CC HE HD
  generalize decM s = D
  generalize decME s = F
  generalize rdM s = m
  generalize rdMB s = B
  generalize chkM m = E
  intro C CC HE HD
  have HZ : Hid (Ma w.heap.size zeroMg (.slice none 0 0) (w.alloc (.cells #[.int .i64 0, .int .i64 0, .int .i64 0, .string ⟨#[]⟩, .slice none 0 0, .string ⟨#[]⟩] 24))) := Go.heap_alloc_new w _
  have HB := hide ((Below.refl w.heap.size w).alloc (Nat.le_refl _) (.cells #[.int .i64 0, .int .i64 0, .int .i64 0, .string ⟨#[]⟩, .slice none 0 0, .string ⟨#[]⟩] 24))
  have hsz : (w.alloc (.cells #[.int .i64 0, .int .i64 0, .int .i64 0, .string ⟨#[]⟩, .slice none 0 0, .string ⟨#[]⟩] 24)).heap.size = w.heap.size + 1 := by simp
  go_enter Try.func8, Try.ntmps8
  go_upto_region 1 with fail
  revert HZ HB hsz
  generalize w.alloc (.cells #[.int .i64 0, .int .i64 0, .int .i64 0, .string ⟨#[]⟩, .slice none 0 0, .string ⟨#[]⟩] 24) = W0
  intro HZ HB hsz
  go_wp2_with fail
  refine (C.out _).mono ?_
  rintro e w1 ⟨ao, co, rfl, ho1, hfr1, hb1⟩
  have HZ1 := hide (HZ.out.below hb1)
  have HK1 := hide (below_step HB.out hb1)
  have hs1 := hb1.size
  have HO1 := hide ho1
  have HFR : Hid (m.opts = [] ∨ ∃ g o, ao = some ⟨g, o, none⟩ ∧ w.heap.size < g) := by
    rcases hfr1 with hx | ⟨g, o, ha, hg⟩
    · exact .inl hx
    · exact .inr ⟨g, o, ha, by omega⟩
  clear hb1 ho1 hfr1 HZ HB C
  simp only [mgV] at CC ⊢
  have hbx : Below w1.heap.size w1 (w1.alloc (.cells #[.int .i64 m.kind, .int .i64 m.code, .int .i64 m.id, .string m.token, .slice ao m.opts.length co, .string m.payload] 24)) := (Below.refl _ _).alloc (Nat.le_refl _) _
  have HM : Hid (Ma w1.heap.size m (.slice ao m.opts.length co) (w1.alloc (.cells #[.int .i64 m.kind, .int .i64 m.code, .int .i64 m.id, .string m.token, .slice ao m.opts.length co, .string m.payload] 24))) := Go.heap_alloc_new w1 _
  go_upto_region 2 with fail
  revert hbx HM
  generalize w1.alloc (.cells #[.int .i64 m.kind, .int .i64 m.code, .int .i64 m.id, .string m.token, .slice ao m.opts.length co, .string m.payload] 24) = W2
  intro hbx HM
  have HZ2 := hide (HZ1.out.below hbx)
  have HK2 := hide (below_step HK1.out hbx)
  have HO2 := hide (HO1.out.below hbx)
  have hs2 := hbx.size
  have m2 := HM.out.cell
  have z2 := HZ2.out.cell
  have zf2 := HZ2.out.frozen
  simp only [zeroMg] at z2
  clear hbx HZ1 HK1 HO1
  cases B with
  | false =>
    have HF1 : Hid (F = 1) := by rw [HE.out, if_pos rfl]; exact rfl
    have HD1 : Hid (D = zeroMg) := by rw [HD.out, if_neg (by rw [HF1.out]; decide)]; exact rfl
    clear HE HD CC
    go_wp2
    exact bodyPost_ret (v := .tuple #[mgV zeroMg none 0, .int .i64 1]) (by simp [results, Try.results8, go_sem, mgV, zeroMg, World.cell?_setCell_same, z2]) rfl (NewMsg.mk HD1.out (congrArg _ HF1.out) rfl (.inl rfl) (.inl rfl) (HK2.out.trans ((six_km0 _ _ _ _ _ _ _ _).below (by omega) (Nat.le_refl _))))
  | true =>
    have HF1 : Hid (F = E) := by rw [HE.out, if_neg (by decide)]; exact rfl
    clear HE
    go_wp2_with fail
    refine (CC.out _ ao co HO2.out).mono ?_
    rintro e w3 ⟨rfl, hb3⟩
    have HZ3 := hide (HZ2.out.below hb3)
    have HK3 := hide (below_step HK2.out hb3)
    have HO3 := hide (HO2.out.below hb3)
    have HM3 := hide (HM.out.below hb3)
    have hs3 := hb3.size
    have m3 := HM3.out.cell
    have z3 := HZ3.out.cell
    have zf3 := HZ3.out.frozen
    simp only [zeroMg] at z3
    clear hb3 HZ2 HK2 HO2 HM m2 z2 zf2 CC
    by_cases h0 : E = 0
    · have HD1 : Hid (D = m) := by rw [HD.out, if_pos (by rw [HF1.out, h0])]; exact rfl
      have HF2 : Hid (F = 0) := HF1.out.trans h0
      have h0' : (E != 0) = false := by simp [h0]
      clear h0 HD
      go_wp2
      exact bodyPost_ret (v := .tuple #[mgV m ao co, .int .i64 0]) (by simp [results, Try.results8, go_sem, mgV, World.cell?_setCell_same, z3]) rfl (NewMsg.mk HD1.out (congrArg _ HF2.out) rfl (km_opts HO3.out (six_km0 _ _ _ _ _ _ _ _) (by rcases HFR.out with hx | ⟨g, o, ha, hg⟩; exact .inl hx; exact .inr ⟨g, o, ha, by omega⟩)) (by rcases HFR.out with hx | ⟨g, o, ha, hg⟩; exact .inl hx; exact .inr ⟨g, o, ha, by omega⟩) (HK3.out.trans ((six_km0 _ _ _ _ _ _ _ _).below (by omega) (Nat.le_refl _))))
    · have HD1 : Hid (D = zeroMg) := by rw [HD.out, if_neg (by rw [HF1.out]; exact h0)]; exact rfl
      have h0' : (E != 0) = true := by simp [h0]
      clear h0 HD
      go_wp2
      exact bodyPost_ret (v := .tuple #[mgV zeroMg none 0, .int .i64 E]) (by simp [results, Try.results8, go_sem, mgV, zeroMg, World.cell?_setCell_same, z3]) rfl (NewMsg.mk HD1.out (congrArg _ HF1.out) rfl (.inl rfl) (.inl rfl) (HK3.out.trans ((six_km0 _ _ _ _ _ _ _ _).below (by omega) (Nat.le_refl _))))
end Go.Proofs.Ytedlebkpdejhiac
