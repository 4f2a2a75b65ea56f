/-
  The walk of dragomanlaw.MessageMore: it answers true, whatever message, payload and option it is handed.
-/
import Derived.Test.YtedlebkpdejhiacMsgSame
import Derived.Test.YtedlebkpdejhiacMessageMoreMath
import Derived.Deep.RegionHeld3
import Derived.Deep.AppendLies
namespace Go.Proofs.Ytedlebkpdejhiac
open Go.RowKit Go.PlainAid

theorem append_zero (W : World) (g : Nat) (ao : Option Addr) (co : Nat) : (Builtin.append_ #[22, 22] 22 #[.slice (some ⟨g, 0, none⟩) 0 0, .slice ao 0 co]).run Try.prog W = .ok (.slice (some ⟨g, 0, none⟩) 0 0) W := by
  obtain ⟨i0, hi, hz0, hz1, hz2⟩ := info_parts (show (Try.prog.info? 26).map (fun i => (i.zero, i.size, i.bytes)) = some (some (.agg #[.int .i64 0, .string ⟨#[]⟩]), 2, 24) by kernel_rfl)
  cases ao <;> simp [Builtin.append_, run_underlying Try.underlying22, sizeOf, typeInfo, hi, Builtin.lenOf, Builtin.firstCells, loadCells, loadCellsFrom, storeCells]
theorem step_append_zero {P : Program} {ops : Array Oper} {o : Oper} {a : Act} {W : World} {K : Act → World → Prop} {Q : Exit → Act → World → Prop} {E : Prop} (hgd : o.guard = none) (s x : Operand) (t : TypeId)
    (ho : o.op = .call { callee := .builtin .append, args := #[s, x], argTypes := #[t, t] }) (v y : Value) (hs : a.eval s = v) (hx : a.eval x = y) (hrun : (Builtin.append_ #[t, t] o.type #[v, y]).run P W = .ok v W) (h : K (a.put o.dst v) W) :
    if Region.wanted o (yielded ops a.tmps) = true then Oper.wp P o a W K Q else E := by
  have hw : Region.wanted o (yielded ops a.tmps) = true := by simp [Region.wanted, hgd]
  rw [if_pos hw]
  unfold Oper.wp execOp
  simp only [ho, resolve, invoke, builtin, Sem.run_bind, Sem.run_pure, Result.andThen_ok, List.map_toArray, List.map_cons, List.map_nil, hs, hx, hrun]
  exact h
theorem add_plain (b o i : Nat) : (⟨b, o, none⟩ : Addr).add i = ⟨b, o + i, none⟩ := by unfold Addr.add; split <;> simp_all
theorem optCells_len (l : List (Int × ByteArray)) : (optCells l).length = l.length * 2 := by
  induction l with
  | nil => rfl
  | cons a l ih => rw [show optCells (a :: l) = .int .i64 a.1 :: .string a.2 :: optCells l from rfl]; simp [ih]; omega
theorem optCells_one (l : List (Int × ByteArray)) : ∀ u ∈ optCells l, u.oneCell' = true := by
  intro u hu
  simp only [optCells, List.mem_flatMap] at hu
  obtain ⟨o, _, hu⟩ := hu
  simp at hu
  rcases hu with rfl | rfl <;> rfl
theorem opts_news {w : World} {ib io : Nat} {l : List (Int × ByteArray)} (h : OptsIn w (some ⟨ib, io, none⟩) l) : ∀ j u, (optCells l)[j]? = some u → w.cell? ((⟨ib, io, none⟩ : Addr).add j) = some u := by
  intro j u hu
  rcases h with rfl | ⟨b, o, ha, _, hc⟩
  · simp [optCells] at hu
  · simp only [Option.some.injEq, Addr.mk.injEq, and_true] at ha
    obtain ⟨rfl, rfl⟩ := ha
    have hj : j < l.length * 2 := by rw [← optCells_len]; exact (List.getElem?_eq_some_iff.1 hu).1
    have hi : j / 2 < l.length := by omega
    have hg := optCells_get l (j / 2) hi
    have hcc := hc (j / 2) hi
    rw [add_plain]
    rcases Nat.mod_two_eq_zero_or_one j with e | e
    · rw [show j / 2 * 2 = j by omega] at hg hcc
      rw [hcc.1, ← hg.1, hu]
    · rw [show j / 2 * 2 + 1 = j by omega] at hg
      rw [show ib = ib from rfl, show io + j = io + j / 2 * 2 + 1 by omega, hcc.2, ← hg.2, hu]

set_option maxHeartbeats 8000000 in
set_option maxRecDepth 100000 in
theorem messageMore_walk (m : Mg) (ao : Option Addr) (co : Nat) (pl : ByteArray) (o : Int × ByteArray) (w : World) (h1 : OptsIn w ao m.opts) :
    Calls Try.prog 3 #[mgV m ao co, .string pl, .agg #[.int .i64 o.1, .string o.2]] w fun e w' => e = .returned (.bool true) ∧ Below w.heap.size w w' := by
  obtain ⟨x, hx⟩ : ∃ x : Mg, x = { m with payload := ⟨#[]⟩ } := ⟨_, rfl⟩
  obtain ⟨y, hy⟩ : ∃ y : Mg, y = { m with payload := pl } := ⟨_, rfl⟩
  obtain ⟨z, hz⟩ : ∃ z : Mg, z = { m with payload := ⟨#[]⟩, opts := m.opts ++ [o] } := ⟨_, rfl⟩
  have CX : Hid (∀ W, OptsIn W ao m.opts → Calls Try.prog 7 #[.agg #[.int .i64 m.kind, .int .i64 m.code, .int .i64 m.id, .string m.token, .slice ao m.opts.length co, .string ⟨#[]⟩]] W fun e w' => e = .returned (.tuple #[.string (encMS x), .int .i64 (chkM x)]) ∧ Below W.heap.size W w') := fun W b => by
    rw [hx]; exact mencode_any { m with payload := ⟨#[]⟩ } ao co W b
  have CY : Hid (∀ W, OptsIn W ao m.opts → Calls Try.prog 7 #[.agg #[.int .i64 m.kind, .int .i64 m.code, .int .i64 m.id, .string m.token, .slice ao m.opts.length co, .string pl]] W fun e w' => e = .returned (.tuple #[.string (encMS y), .int .i64 (chkM y)]) ∧ Below W.heap.size W w') := fun W b => by
    rw [hy]; exact mencode_any { m with payload := pl } ao co W b
  have CZ : Hid (∀ W ab cb, OptsIn W ab (m.opts ++ [o]) → Calls Try.prog 7 #[.agg #[.int .i64 m.kind, .int .i64 m.code, .int .i64 m.id, .string m.token, .slice ab (m.opts.length + 1) cb, .string ⟨#[]⟩]] W fun e w' => e = .returned (.tuple #[.string (encMS z), .int .i64 (chkM z)]) ∧ Below W.heap.size W w') := fun W ab cb b => by
    have := mencode_any { m with payload := ⟨#[]⟩, opts := m.opts ++ [o] } ab cb W b
    rw [hz]
    simp only [mgV, List.length_append, List.length_cons, List.length_nil] at this
    exact this
  have HXN : Hid (chkM x ≠ 0 → (encMS x).toList == []) := fun h => txt_yes (l := []) (if_neg h)
  have HZN : Hid (chkM z ≠ 0 → (encMS z).toList == []) := fun h => txt_yes (l := []) (if_neg h)
  have HY : Hid (chkM x = 0 → chkM y = 0 → pl ≠ ⟨#[]⟩ → encMS y = encMS x ++ ⟨#[255]⟩ ++ pl) := fun h1 h2 h3 => by
    rw [show encMS y = encM y from if_pos h2, show encMS x = encM x from if_pos h1, hy, hx]
    exact more_payload (m := { m with payload := ⟨#[]⟩ }) pl h3 rfl
  have HZ : Hid (chkM x = 0 → chkM z = 0 → (encMS x).size + o.2.size < (encMS z).size ∧ (encMS z).extract 0 (encMS x).size = encMS x ∧ (encMS z).extract ((encMS z).size - o.2.size) (encMS z).size = o.2) := fun h1 h2 => by
    have hE := (chkM_ok h2).2.2.2.2.2.2
    rw [hz] at hE
    simp only at hE
    have hle := lastN_le hE
    rw [show encMS z = encM z from if_pos h2, show encMS x = encM x from if_pos h1, hz, hx]
    exact more_asks (a := lastN 0 m.opts) (o := o) (more_option (m := { m with payload := ⟨#[]⟩ }) o rfl) (by omega)
  have HSX : Hid (chkM x = 0 → (encMS x).size ≤ 100000 ∧ m.opts.length ≤ 12) := fun h => by
    have hok := (chkM_ok h).2.2.2.2.1
    rw [hx] at hok
    exact ⟨by rw [show encMS x = encM x from if_pos h]; exact encM_small h, hok⟩
  have HSY : Hid (chkM y = 0 → pl.size ≤ 200) := fun h => by
    have hok := (chkM_ok h).2.2.2.2.2.1
    rw [hy] at hok
    exact hok
  have HSZ : Hid (chkM z = 0 → (encMS z).size ≤ 100000 ∧ o.2.size ≤ 60) := fun h => by
    have hE := (chkM_ok h).2.2.2.2.2.2
    rw [hz] at hE
    simp only at hE
    exact ⟨by rw [show encMS z = encM z from if_pos h]; exact encM_small h, optsE_mem hE o (by simp)⟩
  have HXX : Hid (x = { m with payload := ⟨#[]⟩ }) := hx
  clear hx hy hz
  have H1 := hide h1
  clear h1
  obtain ⟨on, ov⟩ := o
  have hbw : Below w.heap.size w ((w.alloc (.cells #[.int .i64 m.kind, .int .i64 m.code, .int .i64 m.id, .string m.token, .slice ao m.opts.length co, .string m.payload] 24)).alloc (.cells #[.int .i64 on, .string ov] 26)) := ((Below.refl _ _).alloc (Nat.le_refl _) _).alloc (by simp) _
  have d1 : ∀ q, ((w.alloc (.cells #[.int .i64 m.kind, .int .i64 m.code, .int .i64 m.id, .string m.token, .slice ao m.opts.length co, .string m.payload] 24)).alloc (.cells #[.int .i64 on, .string ov] 26)).cell? ⟨w.heap.size, q, none⟩ = (#[.int .i64 m.kind, .int .i64 m.code, .int .i64 m.id, .string m.token, .slice ao m.opts.length co, .string m.payload] : Array Value)[q]? := fun q => by
    rw [World.cell?_alloc_old _ _ _ (by simp)]; exact Lib.cell_of_heap (Go.heap_alloc_new w _) q
  have d2 : ∀ q, ((w.alloc (.cells #[.int .i64 m.kind, .int .i64 m.code, .int .i64 m.id, .string m.token, .slice ao m.opts.length co, .string m.payload] 24)).alloc (.cells #[.int .i64 on, .string ov] 26)).cell? ⟨w.heap.size + 1, q, none⟩ = (#[.int .i64 on, .string ov] : Array Value)[q]? := fun q => by
    have h0 := Go.heap_alloc_new (w.alloc (.cells #[.int .i64 m.kind, .int .i64 m.code, .int .i64 m.id, .string m.token, .slice ao m.opts.length co, .string m.payload] 24)) (.cells #[.int .i64 on, .string ov] 26)
    simp only [World.size_alloc] at h0
    exact Lib.cell_of_heap h0 q
  have hsz : ((w.alloc (.cells #[.int .i64 m.kind, .int .i64 m.code, .int .i64 m.id, .string m.token, .slice ao m.opts.length co, .string m.payload] 24)).alloc (.cells #[.int .i64 on, .string ov] 26)).heap.size = w.heap.size + 2 := by simp
  simp only at HZ HSZ CZ
  simp only [mgV]
  go_enter Try.func3, Try.ntmps3
  go_upto_region 1 with fail
  revert hbw d1 d2 hsz
  generalize (w.alloc (.cells #[.int .i64 m.kind, .int .i64 m.code, .int .i64 m.id, .string m.token, .slice ao m.opts.length co, .string m.payload] 24)).alloc (.cells #[.int .i64 on, .string ov] 26) = W0
  intro hbw d1 d2 hsz
  have HB0 := hide hbw
  clear hbw
  go_wp2_with fail
  refine (messageBegun_yes _).mono ?_
  rintro e w1 ⟨rfl, hb1⟩
  have e1 : ∀ q, w1.cell? ⟨w.heap.size, q, none⟩ = (#[.int .i64 m.kind, .int .i64 m.code, .int .i64 m.id, .string m.token, .slice ao m.opts.length co, .string m.payload] : Array Value)[q]? := fun q => (hb1.cell (p := ⟨w.heap.size, q, none⟩) (by show w.heap.size < _; omega)).trans (d1 q)
  have e2 : ∀ q, w1.cell? ⟨w.heap.size + 1, q, none⟩ = (#[.int .i64 on, .string ov] : Array Value)[q]? := fun q => (hb1.cell (p := ⟨w.heap.size + 1, q, none⟩) (by show w.heap.size + 1 < _; omega)).trans (d2 q)
  have HB1 := hide (below_step HB0.out hb1)
  have hs1 := hb1.size
  clear hb1 d1 d2 HB0
  go_upto_region 3 with fail
  go_upto_region 5 with fail
  have hbx : Below w1.heap.size w1 (w1.alloc (.cells #[.int .i64 m.kind, .int .i64 m.code, .int .i64 m.id, .string m.token, .slice ao m.opts.length co, .string ⟨#[]⟩] 24)) := (Below.refl _ _).alloc (Nat.le_refl _) _
  have x1 : ∀ q, (w1.alloc (.cells #[.int .i64 m.kind, .int .i64 m.code, .int .i64 m.id, .string m.token, .slice ao m.opts.length co, .string ⟨#[]⟩] 24)).cell? ⟨w1.heap.size, q, none⟩ = (#[.int .i64 m.kind, .int .i64 m.code, .int .i64 m.id, .string m.token, .slice ao m.opts.length co, .string ⟨#[]⟩] : Array Value)[q]? := fun q => Lib.cell_of_heap (Go.heap_alloc_new w1 _) q
  have hsx : (w1.alloc (.cells #[.int .i64 m.kind, .int .i64 m.code, .int .i64 m.id, .string m.token, .slice ao m.opts.length co, .string ⟨#[]⟩] 24)).heap.size = w1.heap.size + 1 := by simp
  revert hbx x1 hsx
  generalize w1.alloc (.cells #[.int .i64 m.kind, .int .i64 m.code, .int .i64 m.id, .string m.token, .slice ao m.opts.length co, .string ⟨#[]⟩] 24) = W2
  intro hbx x1 hsx
  have HB2 := hide (below_step HB1.out hbx)
  have x2 : ∀ q, W2.cell? ⟨w.heap.size + 1, q, none⟩ = (#[.int .i64 on, .string ov] : Array Value)[q]? := fun q => (hbx.cell (p := ⟨w.heap.size + 1, q, none⟩) (by show w.heap.size + 1 < _; omega)).trans (e2 q)
  clear hbx e1 e2 HB1
  generalize hC : w1.heap.size = c7 at *
  have hc7 : w.heap.size + 1 < c7 := by omega
  clear hC hs1
  go_wp2_with fail
  refine (CX.out _ (H1.out.below HB2.out)).mono ?_
  rintro e w3 ⟨rfl, hb3⟩
  have y1 : ∀ q, w3.cell? ⟨c7, q, none⟩ = (#[.int .i64 m.kind, .int .i64 m.code, .int .i64 m.id, .string m.token, .slice ao m.opts.length co, .string ⟨#[]⟩] : Array Value)[q]? := fun q => (hb3.cell (p := ⟨c7, q, none⟩) (by show c7 < _; omega)).trans (x1 q)
  have y2 : ∀ q, w3.cell? ⟨w.heap.size + 1, q, none⟩ = (#[.int .i64 on, .string ov] : Array Value)[q]? := fun q => (hb3.cell (p := ⟨w.heap.size + 1, q, none⟩) (by show w.heap.size + 1 < _; omega)).trans (x2 q)
  have HB3 := hide (below_step HB2.out hb3)
  have hs3 := hb3.size
  clear hb3 x1 x2 HB2 CX
  by_cases kx : chkM x = 0
  · have kx' : (chkM x != 0) = false := by simp [kx]
    obtain ⟨zx, hlen⟩ := HSX.out kx
    have HY' := hide (HY.out kx)
    have HZ' := hide (HZ.out kx)
    clear HSX HY HZ HXN kx
    revert zx HY' HZ'
    generalize encMS x = S
    intro zx HY' HZ'
    go_upto_region 8 with fail
    go_upto_region 10 with fail
    have hbx : Below w3.heap.size w3 (w3.alloc (.cells #[.int .i64 m.kind, .int .i64 m.code, .int .i64 m.id, .string m.token, .slice ao m.opts.length co, .string pl] 24)) := (Below.refl _ _).alloc (Nat.le_refl _) _
    have x1 : ∀ q, (w3.alloc (.cells #[.int .i64 m.kind, .int .i64 m.code, .int .i64 m.id, .string m.token, .slice ao m.opts.length co, .string pl] 24)).cell? ⟨w3.heap.size, q, none⟩ = (#[.int .i64 m.kind, .int .i64 m.code, .int .i64 m.id, .string m.token, .slice ao m.opts.length co, .string pl] : Array Value)[q]? := fun q => Lib.cell_of_heap (Go.heap_alloc_new w3 _) q
    have hsy : (w3.alloc (.cells #[.int .i64 m.kind, .int .i64 m.code, .int .i64 m.id, .string m.token, .slice ao m.opts.length co, .string pl] 24)).heap.size = w3.heap.size + 1 := by simp
    revert hbx x1 hsy
    generalize w3.alloc (.cells #[.int .i64 m.kind, .int .i64 m.code, .int .i64 m.id, .string m.token, .slice ao m.opts.length co, .string pl] 24) = W4
    intro hbx x1 hsy
    have z1 : ∀ q, W4.cell? ⟨c7, q, none⟩ = (#[.int .i64 m.kind, .int .i64 m.code, .int .i64 m.id, .string m.token, .slice ao m.opts.length co, .string ⟨#[]⟩] : Array Value)[q]? := fun q => (hbx.cell (p := ⟨c7, q, none⟩) (by show c7 < _; omega)).trans (y1 q)
    have z2 : ∀ q, W4.cell? ⟨w.heap.size + 1, q, none⟩ = (#[.int .i64 on, .string ov] : Array Value)[q]? := fun q => (hbx.cell (p := ⟨w.heap.size + 1, q, none⟩) (by show w.heap.size + 1 < _; omega)).trans (y2 q)
    have HB4 := hide (below_step HB3.out hbx)
    clear hbx y1 y2 HB3
    go_wp2_with fail
    refine (CY.out _ (H1.out.below HB4.out)).mono ?_
    rintro e w5 ⟨rfl, hb5⟩
    have y1 : ∀ q, w5.cell? ⟨c7, q, none⟩ = (#[.int .i64 m.kind, .int .i64 m.code, .int .i64 m.id, .string m.token, .slice ao m.opts.length co, .string ⟨#[]⟩] : Array Value)[q]? := fun q => (hb5.cell (p := ⟨c7, q, none⟩) (by show c7 < _; omega)).trans (z1 q)
    have y2 : ∀ q, w5.cell? ⟨w.heap.size + 1, q, none⟩ = (#[.int .i64 on, .string ov] : Array Value)[q]? := fun q => (hb5.cell (p := ⟨w.heap.size + 1, q, none⟩) (by show w.heap.size + 1 < _; omega)).trans (z2 q)
    have HB5 := hide (below_step HB4.out hb5)
    have hs5 := hb5.size
    clear hb5 x1 z1 z2 HB4 CY
    -- the payload more
    revert HY' HSY
    generalize encMS y = Ty
    generalize chkM y = Ey
    intro HSY HY'
    go_upto_region 11 with fail
    go_cut [47] (fun q wr => q = .bool false ∧ wr = w5)
    case first =>
      by_cases ky : Ey = 0
      · have ky' : (Ey == 0) = true := by simp [ky]
        have zy := HSY.out ky
        by_cases kp : pl = ⟨#[]⟩
        · have kp' : (pl.toList == []) = true := txt_yes (l := []) kp
          clear ky kp HY' HSY
          go_wp2_with fail
          go_meet
          case rel => exact ⟨rfl, rfl⟩
        · have kp' : (pl.toList == []) = false := txt_no (l := []) kp
          have HT := hide (HY'.out ky kp)
          have hT : (Ty.toList == (S ++ ⟨#[255]⟩ ++ pl).toList) = true := by rw [txt_eq]; simp [HT.out]
          clear ky kp HY' HSY
          go_wp2_with fail
          go_meet
          case rel => exact ⟨by simp, rfl⟩
      · have ky' : (Ey == 0) = false := by simp [ky]
        clear ky HY' HSY
        go_wp2_with fail
        go_meet
        case rel => exact ⟨rfl, rfl⟩
    case rest =>
      obtain ⟨rfl, rfl⟩ := hcut
      clear HY' HSY
      go_upto_region 14 with fail
      have hbx : Below wc.heap.size wc (wc.alloc (.cells #[.int .i64 m.kind, .int .i64 m.code, .int .i64 m.id, .string m.token, .slice ao m.opts.length co, .string ⟨#[]⟩] 24)) := (Below.refl _ _).alloc (Nat.le_refl _) _
      have HM : Hid (Ma wc.heap.size x (.slice ao m.opts.length co) (wc.alloc (.cells #[.int .i64 m.kind, .int .i64 m.code, .int .i64 m.id, .string m.token, .slice ao m.opts.length co, .string ⟨#[]⟩] 24))) := by
        rw [HXX.out]; exact Go.heap_alloc_new wc _
      have hsz6 : (wc.alloc (.cells #[.int .i64 m.kind, .int .i64 m.code, .int .i64 m.id, .string m.token, .slice ao m.opts.length co, .string ⟨#[]⟩] 24)).heap.size = wc.heap.size + 1 := by simp
      revert hbx HM hsz6
      generalize wc.alloc (.cells #[.int .i64 m.kind, .int .i64 m.code, .int .i64 m.id, .string m.token, .slice ao m.opts.length co, .string ⟨#[]⟩] 24) = W6
      intro hbx HM hsz6
      have z1 : ∀ q, W6.cell? ⟨c7, q, none⟩ = (#[.int .i64 m.kind, .int .i64 m.code, .int .i64 m.id, .string m.token, .slice ao m.opts.length co, .string ⟨#[]⟩] : Array Value)[q]? := fun q => (hbx.cell (p := ⟨c7, q, none⟩) (by show c7 < _; omega)).trans (y1 q)
      have z2 : ∀ q, W6.cell? ⟨w.heap.size + 1, q, none⟩ = (#[.int .i64 on, .string ov] : Array Value)[q]? := fun q => (hbx.cell (p := ⟨w.heap.size + 1, q, none⟩) (by show w.heap.size + 1 < _; omega)).trans (y2 q)
      have HB6 := hide (below_step HB5.out hbx)
      have HO6 := hide (H1.out.below HB6.out)
      clear hbx y1 y2 HB5
      generalize hC : wc.heap.size = c12 at *
      have hc12 : c7 < c12 := by omega
      clear hC hs5 hs3 hsx hsy hsz
      have g0 : W6.cell? ⟨c7, 4, none⟩ = some (.slice ao m.opts.length co) := z1 4
      have g1 : W6.cell? ⟨w.heap.size + 1, 0, none⟩ = some (.int .i64 on) := z2 0
      have g2 : W6.cell? ⟨w.heap.size + 1, 1, none⟩ = some (.string ov) := z2 1
      clear z1 z2
      obtain ⟨i0, hi, hz0, hz1, hz2⟩ := info_parts (show (Try.prog.info? 26).map (fun i => (i.zero, i.size, i.bytes)) = some (some (.agg #[.int .i64 0, .string ⟨#[]⟩]), 2, 24) by kernel_rfl)
      by_cases hl0 : m.opts = []
      · have hlen0 : m.opts.length = 0 := by rw [hl0]; rfl
        have hAZ : ∀ (W : World) (g : Nat), (Builtin.append_ #[22, 22] 22 #[.slice (some ⟨g, 0, none⟩) 0 0, .slice ao m.opts.length co]).run Try.prog W = .ok (.slice (some ⟨g, 0, none⟩) 0 0) W := by
          intro W g
          rw [hlen0]
          exact append_zero W g ao co
        have O1 : Hid ((W6.alloc (.cells #[] 26)).ownsRow (w.heap.size + 2) 26 2 (.slice (some ⟨c12 + 1, 0, none⟩) 0 0) 0 []) := by
          have := World.ownsRow_lit (base := w.heap.size + 2) (e := 26) (size := 2) W6 #[] 0 (by omega) (by unfold maxLen; omega) rfl
          rw [hsz6] at this; exact this
        have O3 : Hid (((W6.alloc (.cells #[.int .i64 on, .string ov] 26)).alloc (.cells #[] 26)).ownsRow (w.heap.size + 2) 26 2 (.slice (some ⟨c12 + 2, 0, none⟩) 0 0) 0 []) := by
          have := World.ownsRow_lit (base := w.heap.size + 2) (e := 26) (size := 2) (W6.alloc (.cells #[.int .i64 on, .string ov] 26)) #[] 0 (by simp; omega) (by unfold maxLen; omega) rfl
          rw [World.size_alloc, hsz6] at this; exact this
        have HE2 : Hid (((W6.alloc (.cells #[] 26)).alloc (.cells #[.int .i64 on, .string ov] 26)).drew.heap[c12 + 2]? = some (.cells #[.int .i64 on, .string ov] 26 (0, 0))) := by
          have := Go.heap_alloc_new (W6.alloc (.cells #[] 26)) (.cells #[.int .i64 on, .string ov] 26)
          rw [World.size_alloc, hsz6] at this; exact this
        have HE3 : Hid (((W6.alloc (.cells #[.int .i64 on, .string ov] 26)).alloc (.cells #[] 26)).drew.heap[c12 + 1]? = some (.cells #[.int .i64 on, .string ov] 26 (0, 0))) := by
          have := Go.heap_alloc_new W6 (.cells #[.int .i64 on, .string ov] 26)
          rw [hsz6] at this
          exact (Below.heap_alloc _ _ _ (by simp; omega)).trans this
        have f12 : W6.frozen? ⟨c12, 4, none⟩ = false := HM.out.frozen 4
        have d12 : W6.cell? ⟨c12, 4, none⟩ = some (.slice ao m.opts.length co) := HM.out.cell 4
        have hn1 : c7 ≠ c12 := by omega
        have hn2 : w.heap.size + 1 ≠ c12 := by omega
        have HL0 := hide hlen0
        have HN0 := hide hl0
        clear hl0 hlen0 HO6
        go_region_held3 (fun w' => w'.cell? ⟨c7, 4, none⟩ = some (.slice ao m.opts.length co) ∧ w'.cell? ⟨w.heap.size + 1, 0, none⟩ = some (.int .i64 on) ∧ w'.cell? ⟨w.heap.size + 1, 1, none⟩ = some (.string ov)) (first
            | go_keep
            | (go_split_ands; refine ⟨?_, ?_, ?_⟩ <;> (rw [World.cell?_setCell_other _ _ _ _ (by first | (simp; done) | (simp; omega))]; assumption))
            | (go_split_ands; refine ⟨?_, ?_, ?_⟩ <;> (rw [hgrow2.cell_far _ (by simp; omega) (by simp [Value.ownBlock]; omega)]; assumption)))
          (first
            | (refine step_append_zero (by rfl) _ _ _ (by rfl) _ _ (by rfl) (by rfl) (hAZ _ _) ?_)
            | ((refine step_append_lies _ (by rfl) _ _ _ (by rfl) (w.heap.size + 2) 26 i0 _ 2 24 Try.underlying22 hi hz0 hz1 hz2 rfl (by decide) _ 0 [] (by rfl) ((O1.out.alloc _).drew) ⟨c12 + 2, 0, none⟩ 1 1 [.int .i64 on, .string ov] (by rfl) (by rfl) (World.news_of_block (cs := #[.int .i64 on, .string ov]) (t := 26) (fr := (0, 0)) HE2.out) (by simp [Value.oneCell']) (by decide) (by unfold maxLen; decide) (by decide) (by simp; omega) _ rfl ?_; intro gg2 cap2 wz2 hown2 hgrow2 hat2 hlt2; have hgg2 : c12 < gg2 := (by rcases hat2 with h | h <;> simp [Value.ownBlock] at h <;> omega); have k1 : wz2.cell? ⟨c12, 4, none⟩ = some (.slice ao m.opts.length co) := (hgrow2.cell_far ⟨c12, 4, none⟩ (by simp; omega) (by simp [Value.ownBlock])).trans (((World.cell?_alloc_old _ _ _ (by show c12 ≠ _; simp; omega)).trans (World.cell?_alloc_old _ _ _ (by show c12 ≠ _; omega))).trans d12); have k2 : wz2.frozen? ⟨c12, 4, none⟩ = false := (hgrow2.frozen_far ⟨c12, 4, none⟩ (by simp; omega) (by simp [Value.ownBlock])).trans (((World.frozen?_alloc_old _ _ _ (by show c12 ≠ _; simp; omega)).trans (World.frozen?_alloc_old _ _ _ (by show c12 ≠ _; omega))).trans f12)))
            | ((refine step_append_lies _ (by rfl) _ _ _ (by rfl) (w.heap.size + 2) 26 i0 _ 2 24 Try.underlying22 hi hz0 hz1 hz2 rfl (by decide) _ 0 [] (by rfl) O3.out.drew ⟨c12 + 1, 0, none⟩ 1 1 [.int .i64 on, .string ov] (by rfl) (by rfl) (World.news_of_block (cs := #[.int .i64 on, .string ov]) (t := 26) (fr := (0, 0)) HE3.out) (by simp [Value.oneCell']) (by decide) (by unfold maxLen; decide) (by decide) (by simp; omega) _ rfl ?_; intro gg2 cap2 wz2 hown2 hgrow2 hat2 hlt2; have hgg2 : c12 < gg2 := (by rcases hat2 with h | h <;> simp [Value.ownBlock] at h <;> omega); have k1 : wz2.cell? ⟨c12, 4, none⟩ = some (.slice ao m.opts.length co) := (hgrow2.cell_far ⟨c12, 4, none⟩ (by simp; omega) (by simp [Value.ownBlock])).trans (((World.cell?_alloc_old _ _ _ (by show c12 ≠ _; simp; omega)).trans (World.cell?_alloc_old _ _ _ (by show c12 ≠ _; omega))).trans d12); have k2 : wz2.frozen? ⟨c12, 4, none⟩ = false := (hgrow2.frozen_far ⟨c12, 4, none⟩ (by simp; omega) (by simp [Value.ownBlock])).trans (((World.frozen?_alloc_old _ _ _ (by show c12 ≠ _; simp; omega)).trans (World.frozen?_alloc_old _ _ _ (by show c12 ≠ _; omega))).trans f12)))
            | fail)
        all_goals
          have k3 : wz2.heap[c12]? = W6.heap[c12]? := (hgrow2.block c12 (by simp; omega) (by simp [Value.ownBlock])).trans ((Below.heap_alloc _ _ _ (by simp; omega)).trans (Below.heap_alloc _ _ _ (by omega)))
          have k4 : wz2.heap[w.heap.size + 1]? = W6.heap[w.heap.size + 1]? := (hgrow2.block (w.heap.size + 1) (by simp; omega) (by simp [Value.ownBlock]; omega)).trans ((Below.heap_alloc _ _ _ (by simp; omega)).trans (Below.heap_alloc _ _ _ (by omega)))
          have k5 : Hid (Below w.heap.size w wz2) := Below.grown ((HB6.out.alloc (by omega) _).alloc (by simp; omega) _).drew hgrow2 (by simp; omega) (fun g hg => by simp [Value.ownBlock] at hg; omega)
          have k0 := hgrow2.size
          simp at k0
          have CZ0 : Hid (∀ W ab cb, OptsIn W ab (m.opts ++ [(on, ov)]) → Calls Try.prog 7 #[.agg #[.int .i64 m.kind, .int .i64 m.code, .int .i64 m.id, .string m.token, .slice ab 1 cb, .string ⟨#[]⟩]] W fun e w' => e = .returned (.tuple #[.string (encMS z), .int .i64 (chkM z)]) ∧ Below W.heap.size W w') := by
            have := CZ.out
            rw [HL0.out] at this
            exact this
          have hgc : gg2 ≠ c12 := by omega
          have HM8 : Hid (Ma c12 x (.slice (some ⟨gg2, 0, none⟩) 1 cap2) (wz2.setCell ⟨c12, 4, none⟩ (.slice (some ⟨gg2, 0, none⟩) 1 cap2))) := Ma.set4 (show Ma c12 x _ wz2 from k3.trans HM.out) _
          have HO8 : Hid (OptsIn (wz2.setCell ⟨c12, 4, none⟩ (.slice (some ⟨gg2, 0, none⟩) 1 cap2)) (some ⟨gg2, 0, none⟩) (m.opts ++ [(on, ov)])) := by
            rw [HN0.out]
            refine (own_opts (B := w.heap.size + 2) (l := [(on, ov)]) (co := cap2) ?_).1
            exact mown_kept hown2 fun g hg => Below.heap_setCell _ _ _ _ (by simp only [Value.ownBlock, Option.some.injEq] at hg; subst hg; exact hgc)
          have HB8 : Hid (Below w.heap.size w (wz2.setCell ⟨c12, 4, none⟩ (.slice (some ⟨gg2, 0, none⟩) 1 cap2))) := k5.out.setCell (by show w.heap.size ≤ c12; omega) _
          have o8 : (wz2.setCell ⟨c12, 4, none⟩ (.slice (some ⟨gg2, 0, none⟩) 1 cap2)).cell? ⟨w.heap.size + 1, 1, none⟩ = some (.string ov) := (World.cell?_setCell_other _ _ _ _ (by first | (simp; done) | (simp; omega))).trans ((World.cell?_of_block (a := ⟨w.heap.size + 1, 1, none⟩) k4).trans g2)
          have s8 : w.heap.size + 1 < (wz2.setCell ⟨c12, 4, none⟩ (.slice (some ⟨gg2, 0, none⟩) 1 cap2)).heap.size := by simp [World.setCell]; omega
          have x8 := HM8.out.cell
          rw [HXX.out] at x8
          clear k1 k2 k3 k4 k5 hgrow2 hown2 hat2 hlt2
          revert HM8 HO8 HB8 o8 s8 x8
          generalize wz2.setCell ⟨c12, 4, none⟩ (.slice (some ⟨gg2, 0, none⟩) 1 cap2) = W8
          intro HM8 HO8 HB8 o8 s8 x8
          go_wp2_with fail
          refine (CZ0.out _ _ _ HO8.out).mono ?_
          rintro e w9 ⟨rfl, hb9⟩
          have HB9 := hide (below_step HB8.out hb9)
          have o9 : w9.cell? ⟨w.heap.size + 1, 1, none⟩ = some (.string ov) := (hb9.cell (p := ⟨w.heap.size + 1, 1, none⟩) s8).trans o8
          clear hb9
          by_cases kz : chkM z = 0
          · have kz' : (chkM z != 0) = false := by simp [kz]
            obtain ⟨q1, q2, q3⟩ := HZ'.out kz
            obtain ⟨zz, zo⟩ := HSZ.out kz
            clear kz HZ' HSZ HZN CZ CZ0
            revert q1 q2 q3 zz
            generalize encMS z = T
            intro q1 q2 q3 zz
            have Q2 : ((T.extract 0 S.size).toList == S.toList) = true := by rw [txt_eq]; simp [q2]
            have Q3 : ((T.extract (T.size - ov.size) T.size).toList == ov.toList) = true := by rw [txt_eq]; simp [q3]
            have q1' : (S.size : Int) + ov.size < T.size := by omega
            clear q2 q3
            go_wp2_with fail
            go_quiet (fail)
            go_wp2
            go_ret
            exact ⟨rfl, HB9.out.os, HB9.out.tape, HB9.out.output, HB9.out.size, HB9.out.block⟩
          · have kz' : (chkM z != 0) = true := by simp [kz]
            have hN := HZN.out kz
            clear kz
            go_wp2
            go_ret
            exact ⟨by simp, HB9.out⟩
      · obtain ⟨ib, io, rfl, hib, hcell⟩ : ∃ b o, ao = some ⟨b, o, none⟩ ∧ b < W6.heap.size ∧ ∀ i (h : i < m.opts.length), W6.cell? ⟨b, o + i * 2, none⟩ = some (.int .i64 m.opts[i].1) ∧ W6.cell? ⟨b, o + i * 2 + 1, none⟩ = some (.string m.opts[i].2) := by
          rcases HO6.out with h | h
          · exact absurd h hl0
          · exact h
        have HPOS : Hid (0 < m.opts.length) := List.length_pos_iff.2 hl0
        have HLM : Hid (0 + m.opts.length ≤ maxLen) := by show _ ≤ _; unfold maxLen; omega
        have HLB : Hid ((0 + m.opts.length) * 24 ≤ 140737488355328) := by show _ ≤ _; omega
        have HLM2 : Hid (m.opts.length + 1 ≤ maxLen) := by show _ ≤ _; unfold maxLen; omega
        have HLB2 : Hid ((m.opts.length + 1) * 24 ≤ 140737488355328) := by show _ ≤ _; omega
        have HLM3 : Hid (0 + m.opts.length + 1 ≤ maxLen) := by show _ ≤ _; unfold maxLen; omega
        have HLB3 : Hid ((0 + m.opts.length + 1) * 24 ≤ 140737488355328) := by show _ ≤ _; omega
        have O1 : Hid ((W6.alloc (.cells #[] 26)).ownsRow (w.heap.size + 2) 26 2 (.slice (some ⟨c12 + 1, 0, none⟩) 0 0) 0 []) := by
          have := World.ownsRow_lit (base := w.heap.size + 2) (e := 26) (size := 2) W6 #[] 0 (by omega) (by unfold maxLen; omega) rfl
          rw [hsz6] at this; exact this
        have O3 : Hid (((W6.alloc (.cells #[.int .i64 on, .string ov] 26)).alloc (.cells #[] 26)).ownsRow (w.heap.size + 2) 26 2 (.slice (some ⟨c12 + 2, 0, none⟩) 0 0) 0 []) := by
          have := World.ownsRow_lit (base := w.heap.size + 2) (e := 26) (size := 2) (W6.alloc (.cells #[.int .i64 on, .string ov] 26)) #[] 0 (by simp; omega) (by unfold maxLen; omega) rfl
          rw [World.size_alloc, hsz6] at this; exact this
        have HN6 := hide (opts_news HO6.out)
        have HNA1 : Hid (∀ j u, (optCells m.opts)[j]? = some u → (W6.alloc (.cells #[] 26)).drew.cell? ((⟨ib, io, none⟩ : Addr).add j) = some u) := fun j u h => (World.cell?_alloc_old _ _ _ (by rw [add_plain]; show ib ≠ _; omega)).trans (HN6.out j u h)
        have HNA2 : Hid (∀ j u, (optCells m.opts)[j]? = some u → ((W6.alloc (.cells #[] 26)).alloc (.cells #[.int .i64 on, .string ov] 26)).drew.cell? ((⟨ib, io, none⟩ : Addr).add j) = some u) := fun j u h => ((World.cell?_alloc_old _ _ _ (by rw [add_plain]; show ib ≠ _; simp; omega)).trans (World.cell?_alloc_old _ _ _ (by rw [add_plain]; show ib ≠ _; omega))).trans (HN6.out j u h)
        have HNA3 : Hid (∀ j u, (optCells m.opts)[j]? = some u → ((W6.alloc (.cells #[.int .i64 on, .string ov] 26)).alloc (.cells #[] 26)).drew.cell? ((⟨ib, io, none⟩ : Addr).add j) = some u) := fun j u h => ((World.cell?_alloc_old _ _ _ (by rw [add_plain]; show ib ≠ _; simp; omega)).trans (World.cell?_alloc_old _ _ _ (by rw [add_plain]; show ib ≠ _; omega))).trans (HN6.out j u h)
        have HE2 : Hid (((W6.alloc (.cells #[] 26)).alloc (.cells #[.int .i64 on, .string ov] 26)).drew.heap[c12 + 2]? = some (.cells #[.int .i64 on, .string ov] 26 (0, 0))) := by
          have := Go.heap_alloc_new (W6.alloc (.cells #[] 26)) (.cells #[.int .i64 on, .string ov] 26)
          rw [World.size_alloc, hsz6] at this; exact this
        have HE3 : Hid (((W6.alloc (.cells #[.int .i64 on, .string ov] 26)).alloc (.cells #[] 26)).drew.heap[c12 + 1]? = some (.cells #[.int .i64 on, .string ov] 26 (0, 0))) := by
          have := Go.heap_alloc_new W6 (.cells #[.int .i64 on, .string ov] 26)
          rw [hsz6] at this
          exact (Below.heap_alloc _ _ _ (by simp; omega)).trans this
        have f12 : W6.frozen? ⟨c12, 4, none⟩ = false := HM.out.frozen 4
        have d12 : W6.cell? ⟨c12, 4, none⟩ = some (.slice (some ⟨ib, io, none⟩) m.opts.length co) := HM.out.cell 4
        have hn1 : c7 ≠ c12 := by omega
        have hn2 : w.heap.size + 1 ≠ c12 := by omega
        clear hcell hl0 HO6
        go_region_held3 (fun w' => w'.cell? ⟨c7, 4, none⟩ = some (.slice (some ⟨ib, io, none⟩) m.opts.length co) ∧ w'.cell? ⟨w.heap.size + 1, 0, none⟩ = some (.int .i64 on) ∧ w'.cell? ⟨w.heap.size + 1, 1, none⟩ = some (.string ov)) (first
            | go_keep
            | (go_split_ands; refine ⟨?_, ?_, ?_⟩ <;> (rw [hgrow.cell_far _ (by simp; omega) (by simp [Value.ownBlock]; omega)]; assumption))
            | (go_split_ands; refine ⟨?_, ?_, ?_⟩ <;> (rw [World.cell?_setCell_other _ _ _ _ (by first | (simp; done) | (simp; omega))]; assumption))
            | (go_split_ands; refine ⟨?_, ?_, ?_⟩ <;> (rw [hgrow2.cell_far _ (by simp; omega) (by simp [Value.ownBlock]; omega)]; assumption)))
          (first
            | ((refine step_append_lies _ (by rfl) _ _ _ (by rfl) (w.heap.size + 2) 26 i0 _ 2 24 Try.underlying22 hi hz0 hz1 hz2 rfl (by decide) _ 0 [] (by rfl) O1.out.drew ⟨ib, io, none⟩ m.opts.length co (optCells m.opts) (by rfl) (optCells_len _) HNA1.out (optCells_one _) HPOS.out HLM.out HLB.out (by simp; omega) _ rfl ?_; intro gg cap wz hown hgrow hat hlt; have hownz := hown; simp only [Nat.zero_add, List.nil_append] at hown; have hgg : c12 < gg := (by rcases hat with h | h <;> simp [Value.ownBlock] at h <;> omega); have j1 : wz.cell? ⟨c12, 4, none⟩ = some (.slice (some ⟨ib, io, none⟩) m.opts.length co) := (hgrow.cell_far ⟨c12, 4, none⟩ (by simp; omega) (by simp [Value.ownBlock])).trans (by first | exact (World.cell?_alloc_old _ _ _ (by show c12 ≠ _; omega)).trans d12 | exact ((World.cell?_alloc_old _ _ _ (by show c12 ≠ _; simp; omega)).trans (World.cell?_alloc_old _ _ _ (by show c12 ≠ _; omega))).trans d12); have j2 : wz.frozen? ⟨c12, 4, none⟩ = false := (hgrow.frozen_far ⟨c12, 4, none⟩ (by simp; omega) (by simp [Value.ownBlock])).trans (by first | exact (World.frozen?_alloc_old _ _ _ (by show c12 ≠ _; omega)).trans f12 | exact ((World.frozen?_alloc_old _ _ _ (by show c12 ≠ _; simp; omega)).trans (World.frozen?_alloc_old _ _ _ (by show c12 ≠ _; omega))).trans f12)))
            | ((refine step_append_lies _ (by rfl) _ _ _ (by rfl) (w.heap.size + 2) 26 i0 _ 2 24 Try.underlying22 hi hz0 hz1 hz2 rfl (by decide) _ 0 [] (by rfl) ((O1.out.alloc _).drew) ⟨ib, io, none⟩ m.opts.length co (optCells m.opts) (by rfl) (optCells_len _) HNA2.out (optCells_one _) HPOS.out HLM.out HLB.out (by simp; omega) _ rfl ?_; intro gg cap wz hown hgrow hat hlt; have hownz := hown; simp only [Nat.zero_add, List.nil_append] at hown; have hgg : c12 < gg := (by rcases hat with h | h <;> simp [Value.ownBlock] at h <;> omega); have j1 : wz.cell? ⟨c12, 4, none⟩ = some (.slice (some ⟨ib, io, none⟩) m.opts.length co) := (hgrow.cell_far ⟨c12, 4, none⟩ (by simp; omega) (by simp [Value.ownBlock])).trans (by first | exact (World.cell?_alloc_old _ _ _ (by show c12 ≠ _; omega)).trans d12 | exact ((World.cell?_alloc_old _ _ _ (by show c12 ≠ _; simp; omega)).trans (World.cell?_alloc_old _ _ _ (by show c12 ≠ _; omega))).trans d12); have j2 : wz.frozen? ⟨c12, 4, none⟩ = false := (hgrow.frozen_far ⟨c12, 4, none⟩ (by simp; omega) (by simp [Value.ownBlock])).trans (by first | exact (World.frozen?_alloc_old _ _ _ (by show c12 ≠ _; omega)).trans f12 | exact ((World.frozen?_alloc_old _ _ _ (by show c12 ≠ _; simp; omega)).trans (World.frozen?_alloc_old _ _ _ (by show c12 ≠ _; omega))).trans f12)))
            | ((refine step_append_lies _ (by rfl) _ _ _ (by rfl) (w.heap.size + 2) 26 i0 _ 2 24 Try.underlying22 hi hz0 hz1 hz2 rfl (by decide) _ 0 [] (by rfl) O3.out.drew ⟨ib, io, none⟩ m.opts.length co (optCells m.opts) (by rfl) (optCells_len _) HNA3.out (optCells_one _) HPOS.out HLM.out HLB.out (by simp; omega) _ rfl ?_; intro gg cap wz hown hgrow hat hlt; have hownz := hown; simp only [Nat.zero_add, List.nil_append] at hown; have hgg : c12 < gg := (by rcases hat with h | h <;> simp [Value.ownBlock] at h <;> omega); have j1 : wz.cell? ⟨c12, 4, none⟩ = some (.slice (some ⟨ib, io, none⟩) m.opts.length co) := (hgrow.cell_far ⟨c12, 4, none⟩ (by simp; omega) (by simp [Value.ownBlock])).trans (by first | exact (World.cell?_alloc_old _ _ _ (by show c12 ≠ _; omega)).trans d12 | exact ((World.cell?_alloc_old _ _ _ (by show c12 ≠ _; simp; omega)).trans (World.cell?_alloc_old _ _ _ (by show c12 ≠ _; omega))).trans d12); have j2 : wz.frozen? ⟨c12, 4, none⟩ = false := (hgrow.frozen_far ⟨c12, 4, none⟩ (by simp; omega) (by simp [Value.ownBlock])).trans (by first | exact (World.frozen?_alloc_old _ _ _ (by show c12 ≠ _; omega)).trans f12 | exact ((World.frozen?_alloc_old _ _ _ (by show c12 ≠ _; simp; omega)).trans (World.frozen?_alloc_old _ _ _ (by show c12 ≠ _; omega))).trans f12)))
            | ((refine step_append_lies _ (by rfl) _ _ _ (by rfl) (w.heap.size + 2) 26 i0 _ 2 24 Try.underlying22 hi hz0 hz1 hz2 rfl (by decide) _ (0 + m.opts.length) ([] ++ optCells m.opts) (by rfl) hownz ⟨c12 + 1, 0, none⟩ 1 1 [.int .i64 on, .string ov] (by rfl) (by rfl) (World.news_of_block (cs := #[.int .i64 on, .string ov]) (t := 26) (fr := (0, 0)) ((hgrow.block _ (by simp; omega) (by simp [Value.ownBlock])).trans HE3.out)) (by simp [Value.oneCell']) (by decide) HLM3.out HLB3.out (by have := hgrow.size; simp at this ⊢; omega) _ rfl ?_; intro gg2 cap2 wz2 hown2 hgrow2 hat2 hlt2; simp only [Nat.zero_add, List.nil_append] at hown2; have hgg2 : c12 < gg2 := (by rcases hat2 with h | h; (simp [Value.ownBlock] at h; omega); (have := hgrow.size; simp at this h; omega)); have k1 : wz2.cell? ⟨c12, 4, none⟩ = some (.slice (some ⟨ib, io, none⟩) m.opts.length co) := (hgrow2.cell_far ⟨c12, 4, none⟩ (by simp; omega) (by simp [Value.ownBlock]; omega)).trans (by first | exact j1 | exact (World.cell?_alloc_old _ _ _ (by show c12 ≠ _; omega)).trans j1); have k2 : wz2.frozen? ⟨c12, 4, none⟩ = false := (hgrow2.frozen_far ⟨c12, 4, none⟩ (by simp; omega) (by simp [Value.ownBlock]; omega)).trans (by first | exact j2 | exact (World.frozen?_alloc_old _ _ _ (by show c12 ≠ _; omega)).trans j2)))
            | ((refine step_append_lies _ (by rfl) _ _ _ (by rfl) (w.heap.size + 2) 26 i0 _ 2 24 Try.underlying22 hi hz0 hz1 hz2 rfl (by decide) _ (0 + m.opts.length) ([] ++ optCells m.opts) (by rfl) hownz ⟨c12 + 2, 0, none⟩ 1 1 [.int .i64 on, .string ov] (by rfl) (by rfl) (World.news_of_block (cs := #[.int .i64 on, .string ov]) (t := 26) (fr := (0, 0)) ((hgrow.block _ (by simp; omega) (by simp [Value.ownBlock])).trans HE2.out)) (by simp [Value.oneCell']) (by decide) HLM3.out HLB3.out (by have := hgrow.size; simp at this ⊢; omega) _ rfl ?_; intro gg2 cap2 wz2 hown2 hgrow2 hat2 hlt2; simp only [Nat.zero_add, List.nil_append] at hown2; have hgg2 : c12 < gg2 := (by rcases hat2 with h | h; (simp [Value.ownBlock] at h; omega); (have := hgrow.size; simp at this h; omega)); have k1 : wz2.cell? ⟨c12, 4, none⟩ = some (.slice (some ⟨ib, io, none⟩) m.opts.length co) := (hgrow2.cell_far ⟨c12, 4, none⟩ (by simp; omega) (by simp [Value.ownBlock]; omega)).trans (by first | exact j1 | exact (World.cell?_alloc_old _ _ _ (by show c12 ≠ _; omega)).trans j1); have k2 : wz2.frozen? ⟨c12, 4, none⟩ = false := (hgrow2.frozen_far ⟨c12, 4, none⟩ (by simp; omega) (by simp [Value.ownBlock]; omega)).trans (by first | exact j2 | exact (World.frozen?_alloc_old _ _ _ (by show c12 ≠ _; omega)).trans j2)))
            | ((refine step_append_lies _ (by rfl) _ _ _ (by rfl) (w.heap.size + 2) 26 i0 _ 2 24 Try.underlying22 hi hz0 hz1 hz2 rfl (by decide) _ m.opts.length (optCells m.opts) (by rfl) (hown.alloc _) ⟨wz.heap.size, 0, none⟩ 1 1 [.int .i64 on, .string ov] (by rfl) (by rfl) (World.news_of_block (cs := #[.int .i64 on, .string ov]) (t := 26) (fr := (0, 0)) (Go.heap_alloc_new wz _)) (by simp [Value.oneCell']) (by decide) HLM2.out HLB2.out (by have := hgrow.size; simp at this ⊢; omega) _ rfl ?_; intro gg2 cap2 wz2 hown2 hgrow2 hat2 hlt2; have hgg2 : c12 < gg2 := (by rcases hat2 with h | h; (simp [Value.ownBlock] at h; omega); (have := hgrow.size; simp at this h; omega)); have k1 : wz2.cell? ⟨c12, 4, none⟩ = some (.slice (some ⟨ib, io, none⟩) m.opts.length co) := (hgrow2.cell_far ⟨c12, 4, none⟩ (by simp; omega) (by simp [Value.ownBlock]; omega)).trans (by first | exact j1 | exact (World.cell?_alloc_old _ _ _ (by show c12 ≠ _; omega)).trans j1); have k2 : wz2.frozen? ⟨c12, 4, none⟩ = false := (hgrow2.frozen_far ⟨c12, 4, none⟩ (by simp; omega) (by simp [Value.ownBlock]; omega)).trans (by first | exact j2 | exact (World.frozen?_alloc_old _ _ _ (by show c12 ≠ _; omega)).trans j2))))
        all_goals
          have j0 := hgrow.size
          simp at j0
          have j3 : wz.heap[c12]? = W6.heap[c12]? := (hgrow.block c12 (by simp; omega) (by simp [Value.ownBlock])).trans (by first | exact Below.heap_alloc _ _ _ (by omega) | exact (Below.heap_alloc _ _ _ (by simp; omega)).trans (Below.heap_alloc _ _ _ (by omega)))
          have j4 : wz.heap[w.heap.size + 1]? = W6.heap[w.heap.size + 1]? := (hgrow.block (w.heap.size + 1) (by simp; omega) (by simp [Value.ownBlock]; omega)).trans (by first | exact Below.heap_alloc _ _ _ (by omega) | exact (Below.heap_alloc _ _ _ (by simp; omega)).trans (Below.heap_alloc _ _ _ (by omega)))
          have j5 : Hid (Below w.heap.size w wz) := Below.grown (by first | exact (HB6.out.alloc (by omega) _).drew | exact ((HB6.out.alloc (by omega) _).alloc (by simp; omega) _).drew) hgrow (by simp; omega) (fun g hg => by simp [Value.ownBlock] at hg; omega)
          have k0 := hgrow2.size
          try simp at k0
          have k3 : wz2.heap[c12]? = W6.heap[c12]? := (hgrow2.block c12 (by first | omega | (simp; omega)) (by simp [Value.ownBlock]; omega)).trans (by first | exact j3 | exact (Below.heap_alloc _ _ _ (by omega)).trans j3)
          have k4 : wz2.heap[w.heap.size + 1]? = W6.heap[w.heap.size + 1]? := (hgrow2.block (w.heap.size + 1) (by first | omega | (simp; omega)) (by simp [Value.ownBlock]; omega)).trans (by first | exact j4 | exact (Below.heap_alloc _ _ _ (by omega)).trans j4)
          have k5 : Hid (Below w.heap.size w wz2) := Below.grown (by first | exact j5.out | exact j5.out.alloc (by omega) _) hgrow2 (by first | omega | (simp; omega)) (fun g hg => by simp [Value.ownBlock] at hg; omega)
          have hgc : gg2 ≠ c12 := by omega
          have HM8 : Hid (Ma c12 x (.slice (some ⟨gg2, 0, none⟩) (m.opts.length + 1) cap2) (wz2.setCell ⟨c12, 4, none⟩ (.slice (some ⟨gg2, 0, none⟩) (m.opts.length + 1) cap2))) := Ma.set4 (show Ma c12 x _ wz2 from k3.trans HM.out) _
          have HO8 : Hid (OptsIn (wz2.setCell ⟨c12, 4, none⟩ (.slice (some ⟨gg2, 0, none⟩) (m.opts.length + 1) cap2)) (some ⟨gg2, 0, none⟩) (m.opts ++ [(on, ov)])) := by
            refine (own_opts (B := w.heap.size + 2) (l := m.opts ++ [(on, ov)]) (co := cap2) ?_).1
            rw [optCells_append, List.length_append]
            exact mown_kept hown2 fun g hg => Below.heap_setCell _ _ _ _ (by simp only [Value.ownBlock, Option.some.injEq] at hg; subst hg; exact hgc)
          have HB8 : Hid (Below w.heap.size w (wz2.setCell ⟨c12, 4, none⟩ (.slice (some ⟨gg2, 0, none⟩) (m.opts.length + 1) cap2))) := k5.out.setCell (by show w.heap.size ≤ c12; omega) _
          have o8 : (wz2.setCell ⟨c12, 4, none⟩ (.slice (some ⟨gg2, 0, none⟩) (m.opts.length + 1) cap2)).cell? ⟨w.heap.size + 1, 1, none⟩ = some (.string ov) := (World.cell?_setCell_other _ _ _ _ (by first | (simp; done) | (simp; omega))).trans ((World.cell?_of_block (a := ⟨w.heap.size + 1, 1, none⟩) k4).trans g2)
          have s8 : w.heap.size + 1 < (wz2.setCell ⟨c12, 4, none⟩ (.slice (some ⟨gg2, 0, none⟩) (m.opts.length + 1) cap2)).heap.size := by simp [World.setCell]; omega
          have x8 := HM8.out.cell
          rw [HXX.out] at x8
          clear k1 k2 k3 k4 k5 hgrow2 hown2 hat2 hlt2
          revert HM8 HO8 HB8 o8 s8 x8
          generalize wz2.setCell ⟨c12, 4, none⟩ (.slice (some ⟨gg2, 0, none⟩) (m.opts.length + 1) cap2) = W8
          intro HM8 HO8 HB8 o8 s8 x8
          go_wp2_with fail
          refine (CZ.out _ _ _ HO8.out).mono ?_
          rintro e w9 ⟨rfl, hb9⟩
          have HB9 := hide (below_step HB8.out hb9)
          have o9 : w9.cell? ⟨w.heap.size + 1, 1, none⟩ = some (.string ov) := (hb9.cell (p := ⟨w.heap.size + 1, 1, none⟩) s8).trans o8
          clear hb9
          by_cases kz : chkM z = 0
          · have kz' : (chkM z != 0) = false := by simp [kz]
            obtain ⟨q1, q2, q3⟩ := HZ'.out kz
            obtain ⟨zz, zo⟩ := HSZ.out kz
            clear kz HZ' HSZ HZN CZ
            revert q1 q2 q3 zz
            generalize encMS z = T
            intro q1 q2 q3 zz
            have Q2 : ((T.extract 0 S.size).toList == S.toList) = true := by rw [txt_eq]; simp [q2]
            have Q3 : ((T.extract (T.size - ov.size) T.size).toList == ov.toList) = true := by rw [txt_eq]; simp [q3]
            have q1' : (S.size : Int) + ov.size < T.size := by omega
            clear q2 q3
            go_wp2_with fail
            go_quiet (fail)
            go_wp2
            go_ret
            exact ⟨rfl, HB9.out.os, HB9.out.tape, HB9.out.output, HB9.out.size, HB9.out.block⟩
          · have kz' : (chkM z != 0) = true := by simp [kz]
            have hN := HZN.out kz
            clear kz
            go_wp2
            go_ret
            exact ⟨by simp, HB9.out⟩
  · have kx' : (chkM x != 0) = true := by simp [kx]
    have hN := HXN.out kx
    clear kx HSX HY HZ HXN
    go_wp2
    go_ret
    exact ⟨by simp, HB3.out⟩

theorem messageMore_lift {w : World} (m : Mg) (ao : Option Addr) (co : Nat) (h1 : OptsIn w ao m.opts) (pl : ByteArray) (o : Int × ByteArray) :
    Calls Try.prog 3 #[mgV m ao co, .string pl, .agg #[.int .i64 o.1, .string o.2]] w fun e w' => e = .returned (.bool true) ∧ Below w.heap.size w w' := messageMore_walk m ao co pl o w h1
end Go.Proofs.Ytedlebkpdejhiac
