/-
  dragomanref.GoOf, LandedOf, ComeOf, SendOf: what they answer of a right session.
-/
import Derived.Test.YtnhcecgmcmcioaaDoorSesRefFly
import Derived.Test.YtnhcecgmcmcioaaDoorSesRefCheck
namespace Go.Proofs.YtnhcecgmcmcioaaDoor
open Go.RowKit Go.PlainAid

theorem flyS_more : ∀ (k : Nat) (s : Se) (L : List Pk), flyS k s L = ((flyS k s []).1, L ++ (flyS k s []).2) := by
  intro k
  induction k with
  | zero => intro s L; simp [flyS]
  | succ k ih =>
    intro s L
    rw [flyS, flyS]
    cases s.qu with
    | nil => simp
    | cons f q =>
      simp only
      by_cases h : s.on = true ∧ s.fl.length < 3
      · rw [if_pos h, if_pos h, ih _ (L ++ _), ih _ ([] ++ _)]
        simp
      · rw [if_neg h, if_neg h]; simp
/-- an answer behind the six stores -/
theorem FPost.put {N b z : Nat} {s : Se} {a1 a2 ao : Option Addr} {c1 c2 cs : Nat} {L : List Pk} {w W : World} (h : Ry N b z s a1 c1 a2 c2 ao cs L w W) {R : Se × List Pk} {x1 x2 xo : Option Addr} {y1 y2 ys : Nat} {e : Ending} (f1 : FlsB N W x1 R.1.fl) (f2 : FlsB N W x2 R.1.qu) (k2 : R.1.qu.length ≤ y2) (hown : W.ownsRow w.heap.size 57 14 (.slice xo R.2.length ys) R.2.length (spCells R.2)) (v0 v1 v2 v3 v4 v5 : Value)
    (he : e = .returned (.tuple #[.agg #[.string R.1.client, .bool R.1.on, .bool R.1.clean, .slice x1 R.1.fl.length y1, .slice x2 R.1.qu.length y2, .int .i64 R.1.next], .slice xo R.2.length ys])) :
    FPost N R w e ((((((W.setCell ⟨z, 0, none⟩ v0).setCell ⟨z, 1, none⟩ v1).setCell ⟨z, 2, none⟩ v2).setCell ⟨z, 3, none⟩ v3).setCell ⟨z, 4, none⟩ v4).setCell ⟨z, 5, none⟩ v5) :=
  ⟨x1, y1, x2, y2, xo, ys, he, h.done f1 f2 k2 hown v0 v1 v2 v3 v4 v5⟩

/-- a session alone is answered -/
def GPost (N : Nat) (R : Se) (w : World) (e : Ending) (w' : World) : Prop :=
  ∃ a1 c1 a2 c2, e = .returned (.agg #[.string R.client, .bool R.on, .bool R.clean, .slice a1 R.fl.length c1, .slice a2 R.qu.length c2, .int .i64 R.next]) ∧ FlsB N w' a1 R.fl ∧ FlsB N w' a2 R.qu ∧ Below w.heap.size w w'

set_option maxHeartbeats 8000000 in
set_option maxRecDepth 100000 in
theorem goOf_any (N : Nat) (s : Se) (aa ab : Option Addr) (ca cb : Nat) (w : World) (h1 : FlsB N w aa s.fl) (h2 : FlsB N w ab s.qu) (hq : s.qu.length ≤ cb) (hN : N ≤ w.heap.size) :
    Calls Tryd.prog 14 #[seV s aa ca ab cb] w (GPost N (goS s) w) := by
  have HI0 := hide (ry_new s aa ca ab cb N w h1 h2 hq hN)
  have HR : Hid (goS s = if s.clean = true then { s with on := false, fl := [], qu := [] } else { s with on := false }) := rfl
  generalize goS s = R at *
  clear h1 h2 hq hN
  obtain ⟨cl, on, clean, fl, qu, nx⟩ := s
  simp only [seV] at HI0 HR ⊢
  go_enter Tryd.func14, Tryd.ntmps14
  go_upto_region 1 with fail
  revert HI0
  generalize (w.alloc (.cells #[.string cl, .bool on, .bool clean, .slice aa fl.length ca, .slice ab qu.length cb, .int .i64 nx] 24)).alloc (.cells #[.string ⟨#[]⟩, .bool false, .bool false, .slice none 0 0, .slice none 0 0, .int .i64 0] 24) = W0
  intro HI0
  have x1 : W0.cell? ⟨w.heap.size, 1, none⟩ = some (.bool on) := HI0.out.box.cell 1
  have f1 := HI0.out.box.frozen 1
  go_upto_region 2 with fail
  have HS1 := hide (HI0.out.putOn false)
  simp only at HS1
  clear HI0 x1 f1
  revert HS1
  generalize W0.setCell ⟨w.heap.size, 1, none⟩ (.bool false) = W1
  intro HS1
  have x0 : W1.cell? ⟨w.heap.size, 0, none⟩ = some (.string cl) := HS1.out.box.cell 0
  have x1 : W1.cell? ⟨w.heap.size, 1, none⟩ = some (.bool false) := HS1.out.box.cell 1
  have x2 : W1.cell? ⟨w.heap.size, 2, none⟩ = some (.bool clean) := HS1.out.box.cell 2
  have x3 : W1.cell? ⟨w.heap.size, 3, none⟩ = some (.slice aa fl.length ca) := HS1.out.box.cell 3
  have x4 : W1.cell? ⟨w.heap.size, 4, none⟩ = some (.slice ab qu.length cb) := HS1.out.box.cell 4
  have x5 : W1.cell? ⟨w.heap.size, 5, none⟩ = some (.int .i64 nx) := HS1.out.box.cell 5
  have f3 := HS1.out.box.frozen
  cases clean with
  | false =>
    have HQ := hide (HR.out.trans (if_neg (by decide)))
    clear HR
    have z1 := HS1.out.zero.cell
    have z2 := HS1.out.zero.frozen
    simp only [zeroSe] at z1
    have HD := hide (HS1.out.done (s' := ⟨cl, false, false, fl, qu, nx⟩) HS1.out.fl HS1.out.qu HS1.out.cq HS1.out.out (.string cl) (.bool false) (.bool false) (.slice aa fl.length ca) (.slice ab qu.length cb) (.int .i64 nx))
    go_wp2
    exact bodyPost_ret (v := .agg #[.string cl, .bool false, .bool false, .slice aa fl.length ca, .slice ab qu.length cb, .int .i64 nx]) (by simp [results, Tryd.results14, go_sem, World.cell?_setCell_same, z1]) rfl (by rw [HQ.out]; exact ⟨aa, ca, ab, cb, rfl, HD.out.1, HD.out.2.1, HD.out.2.2.2.2⟩)
  | true =>
    have HQ := hide (HR.out.trans (if_pos rfl))
    clear HR
    go_upto_region 4 with fail
    have HS3 := hide ((HS1.out.putFl (fl := []) (n := 0) rfl (x1 := none) (y1 := 0) (.inl rfl)).putQu (qu := []) (n := 0) rfl (x2 := none) (y2 := 0) (.inl rfl) (Nat.le_refl _))
    simp only at HS3
    clear HS1 x0 x1 x2 x3 x4 x5 f3
    revert HS3
    generalize (W1.setCell ⟨w.heap.size, 3, none⟩ (.slice none 0 0)).setCell ⟨w.heap.size, 4, none⟩ (.slice none 0 0) = W3
    intro HS3
    have x0 : W3.cell? ⟨w.heap.size, 0, none⟩ = some (.string cl) := HS3.out.box.cell 0
    have x1 : W3.cell? ⟨w.heap.size, 1, none⟩ = some (.bool false) := HS3.out.box.cell 1
    have x2 : W3.cell? ⟨w.heap.size, 2, none⟩ = some (.bool true) := HS3.out.box.cell 2
    have x3 : W3.cell? ⟨w.heap.size, 3, none⟩ = some (.slice none 0 0) := HS3.out.box.cell 3
    have x4 : W3.cell? ⟨w.heap.size, 4, none⟩ = some (.slice none 0 0) := HS3.out.box.cell 4
    have x5 : W3.cell? ⟨w.heap.size, 5, none⟩ = some (.int .i64 nx) := HS3.out.box.cell 5
    have z1 := HS3.out.zero.cell
    have z2 := HS3.out.zero.frozen
    simp only [zeroSe] at z1
    have HD := hide (HS3.out.done (s' := ⟨cl, false, true, [], [], nx⟩) HS3.out.fl HS3.out.qu HS3.out.cq HS3.out.out (.string cl) (.bool false) (.bool true) (.slice none 0 0) (.slice none 0 0) (.int .i64 nx))
    go_wp2
    exact bodyPost_ret (v := .agg #[.string cl, .bool false, .bool true, .slice none 0 0, .slice none 0 0, .int .i64 nx]) (by simp [results, Tryd.results14, go_sem, World.cell?_setCell_same, z1]) rfl (by rw [HQ.out]; exact ⟨none, 0, none, 0, rfl, HD.out.1, HD.out.2.1, HD.out.2.2.2.2⟩)

set_option maxHeartbeats 8000000 in
set_option maxRecDepth 100000 in
theorem landedOf_any (N : Nat) (s : Se) (aa ab : Option Addr) (ca cb : Nat) (id : Int) (w : World) (h1 : FlsB N w aa s.fl) (h2 : FlsB N w ab s.qu) (hq : s.qu.length ≤ cb) (hN : N ≤ w.heap.size) (hl : s.fl.length ≤ 3) (hn : 1 ≤ s.next ∧ s.next ≤ 65535) (hqn : s.qu.length ≤ 1048576) :
    Calls Tryd.prog 12 #[seV s aa ca ab cb, .int .i64 id] w (FPost N (landS id s) w) := by
  have HI0 := hide (ry_new s aa ca ab cb N w h1 h2 hq hN)
  have CF : Hid (∀ V x y, N ≤ V.heap.size → FlsB N V x (offF id s.fl) → FlsB N V ab s.qu → Calls Tryd.prog 35 #[.agg #[.string s.client, .bool s.on, .bool s.clean, .slice x (offF id s.fl).length y, .slice ab s.qu.length cb, .int .i64 s.next]] V (FPost N (landS id s) V)) := fun V x y hV hx hy => flyOf_any N { s with fl := offF id s.fl } x ab y cb V hx hy hq hV (Nat.le_trans (offF_len id s.fl) hl) hn hqn
  have HOL := hide (offF_len id s.fl)
  generalize landS id s = R at *
  clear h1 h2 hq hqn
  obtain ⟨cl, on, clean, fl, qu, nx⟩ := s
  simp only [seV] at HI0 CF HOL hl ⊢
  go_enter Tryd.func12, Tryd.ntmps12
  go_upto_region 1 with fail
  revert HI0
  generalize (w.alloc (.cells #[.string cl, .bool on, .bool clean, .slice aa fl.length ca, .slice ab qu.length cb, .int .i64 nx] 24)).alloc (.cells #[.string ⟨#[]⟩, .bool false, .bool false, .slice none 0 0, .slice none 0 0, .int .i64 0] 24) = W0
  intro HI0
  go_wp2
  go_loopw [6, 7] (fun x i wr => ∃ (k : Nat) (av : Option Addr) (cv : Nat), k ≤ fl.length ∧ i = .int .i64 k ∧ x = .slice av (offF id (fl.take k)).length cv ∧ Hid (Below W0.heap.size W0 wr ∧ wr.ownsRow W0.heap.size 46 3 (.slice av (offF id (fl.take k)).length cv) (offF id (fl.take k)).length (flCells (offF id (fl.take k))))) (fun _ i _ => fl.length - (intOf i).toNat)
  case atStart => exact ⟨0, none, 0, by omega, rfl, by simp [offF], Below.refl _ _, by simp only [List.take_zero]; exact World.ownsRow_nil _ _ _ _⟩
  case round =>
    obtain ⟨k, av, cv, hk, rfl, rfl, HR⟩ := hrel
    have HS := hide (HI0.out.step HR.out.1)
    have x3 : wr.cell? ⟨w.heap.size, 3, none⟩ = some (.slice aa fl.length ca) := HS.out.box.cell 3
    by_cases hlt : k < fl.length
    · obtain ⟨fb, fo, rfl, hfb, hfc⟩ := HS.out.fl.here hlt
      obtain ⟨k1, k2, k3⟩ := hfc k hlt
      have HSN := hide (offF_snoc id fl k hlt)
      have HLN : Hid ((offF id (fl.take k)).length ≤ 3) := by refine hide ?_; have := offF_len id (fl.take k); simp only [List.length_take] at this; omega
      have hlti : (k : Int) < fl.length := by omega
      have HISI : Hid (isI id fl[k] = (fl[k].id == id)) := rfl
      clear hfc
      obtain ⟨f, hf⟩ : ∃ f, fl[k] = f := ⟨_, rfl⟩
      rw [hf] at HSN k1 k2 k3 HISI
      clear hf
      obtain ⟨fi, ft, fp⟩ := f
      simp only at k1 k2 k3 HISI
      by_cases he : fi = id
      · have he' : (fi == id) = true := by simp [he]
        have HE : Hid (offF id (fl.take (k + 1)) = offF id (fl.take k)) := by refine hide ?_; rw [HSN.out, HISI.out, he', if_pos rfl, List.append_nil]
        clear he HSN HISI
        go_wp2
        go_round
        case rel => exact ⟨k + 1, av, cv, by omega, by go_num, by rw [HE.out], hide (by rw [HE.out]; exact HR.out)⟩
        case measure => simp [intOf]; omega
      · have he' : (fi == id) = false := by simp [he]
        have HE : Hid (offF id (fl.take (k + 1)) = offF id (fl.take k) ++ [⟨fi, ft, fp⟩]) := by refine hide ?_; rw [HSN.out, HISI.out, he', if_neg (by decide)]
        clear HSN HISI
        have HR2 := hide (HR.out.2.alloc (.cells #[.int .i64 fi, .string ft, .string fp] 46))
        have HB2 : Hid (Below W0.heap.size W0 (wr.alloc (.cells #[.int .i64 fi, .string ft, .string fp] 46))) := HR.out.1.alloc HR.out.1.size _
        generalize offF id (fl.take k) = X at *
        go_wp2_with (at_builtin; refine wp_app ap_flights rfl _ _ rfl rfl av X.length cv (flCells X) (by rfl) HR2.out (some ⟨wr.heap.size, 0, none⟩) 1 1 [.int .i64 fi, .string ft, .string fp] (by rfl) rfl (fun _ => ⟨_, rfl, World.news_of_block (Go.heap_alloc_new _ _)⟩) (by simp [Value.oneCell']) (by have := HLN.out; unfold maxLen; omega) (by have := HLN.out; omega) HB2.out.size ?_; intro ao' cap w7 hown hgrow hat)
        have HB3 : Hid (Below W0.heap.size W0 w7) := Below.grown HB2.out hgrow HB2.out.size (fun g hg => (kown_at HR2.out hg).1)
        have HO3 : Hid (w7.ownsRow W0.heap.size 46 3 (.slice ao' (X ++ [(⟨fi, ft, fp⟩ : Fl)]).length cap) (X ++ [(⟨fi, ft, fp⟩ : Fl)]).length (flCells (X ++ [(⟨fi, ft, fp⟩ : Fl)]))) := by
          refine hide ?_
          rw [List.length_append, flCells_append]
          exact hown
        clear hown hgrow hat HR2 HB2 HR
        go_wp2
        go_round
        case rel => exact ⟨k + 1, ao', cap, by omega, by go_num, by rw [HE.out, List.length_append]; rfl, hide (by rw [HE.out]; exact ⟨HB3.out, HO3.out⟩)⟩
        case measure => simp [intOf]; omega
    · obtain rfl : k = fl.length := by omega
      have hle : ¬ ((fl.length : Nat) : Int) < fl.length := by omega
      rw [List.take_length] at HR ⊢
      have f3 := HS.out.box.frozen 3
      have HF := hide (own_flsB (N := N) HR.out.2 rfl)
      have HS4 := hide (HS.out.putFl (fl := offF id fl) (n := (offF id fl).length) rfl (x1 := av) (y1 := cv) HF.out)
      simp only at HS4
      clear hlt HR HI0
      go_upto_region 8 with fail
      clear x3 f3 HS HF
      revert HS4
      generalize wr.setCell ⟨w.heap.size, 3, none⟩ (.slice av (offF id fl).length cv) = W4
      intro HS4
      have y1 := HS4.out.box.cell
      go_wp2_with fail
      refine (CF.out _ _ _ (Nat.le_trans hN HS4.out.bel.size) HS4.out.fl HS4.out.qu).mono ?_
      rintro e w5 ⟨x1, u1, x2, u2, xo, us, rfl, g1, g2, g3, g4, g5⟩
      have HS5 := hide (HS4.out.step g5)
      have G1 := hide g1
      have G2 := hide g2
      have G3 := hide g3
      have G4 := hide (kown_mono g4 HS4.out.bel.size)
      clear g1 g2 g3 g4 g5 y1 HS4 CF
      have z1 := HS5.out.zero.cell
      have z2 := HS5.out.zero.frozen
      simp only [zeroSe] at z1
      go_wp2
      exact bodyPost_ret (v := .tuple #[.agg #[.string R.1.client, .bool R.1.on, .bool R.1.clean, .slice x1 R.1.fl.length u1, .slice x2 R.1.qu.length u2, .int .i64 R.1.next], .slice xo R.2.length us]) (by simp [results, Tryd.results12, go_sem, World.cell?_setCell_same, z1]) rfl (FPost.put HS5.out G1.out G2.out G3.out G4.out _ _ _ _ _ _ rfl)
end Go.Proofs.YtnhcecgmcmcioaaDoor
