/-
  A packet among the arguments, opened: its fields, and where its lists lie.
-/
import Derived.Test.YtnjdpibgfbbkcabGreatDoorPacketBase
import Derived.Test.YtnjdpibgfbbkcabGreatDoorOpenBase
import Derived.Deep.SlicePairs
import Derived.ChangeSlices
import Derived.WideShapes
import Derived.ProofKit
import Derived.OpenShut
namespace Go.Proofs.YtnjdpibgfbbkcabGreatDoor
open Go.RowKit Go.ChangeShapes Go.WideShapes Go.Deep

section
variable {H : Type} {enc : TypeId × Value → H} {w : World} {base : Nat} {spare : Nat → Bool} {held : Bool}

theorem open_codes {n : Nat} {v : Value} {x : DataW H × List MemPlace} (h : DataW.trod enc Tryz.prog w base spare held n 33 [v] = some x) :
    ∃ (l : List Int) (ac : Option Addr) (cc : Nat), v = .slice ac l.length cc ∧ IntsIn w ac l := by
  rcases open_ints Tryz.underlying33 Tryz.underlying3 (by kernel_rfl) h with ⟨h0, _⟩ | ⟨a, len, cap, zs, h0, _, hl, _, hz, _, hc, _⟩
  · simp only [List.cons.injEq, and_true] at h0
    exact ⟨[], none, 0, h0, .inl rfl⟩
  · simp only [List.cons.injEq, and_true] at h0
    have hzl : len ≤ zs.length := by rw [hz]; split <;> omega
    have hlen : (zs.take len).length = len := by rw [List.length_take]; omega
    refine ⟨zs.take len, some a, cap, by rw [hlen]; exact h0, ?_⟩
    by_cases h1 : len = 0
    · left; rw [h1]; rfl
    · right
      have hc0 := hc 0 (by omega)
      obtain ⟨b, o, rfl⟩ := spot_none hc0
      rw [add_none] at hc0
      refine ⟨b, o, rfl, ?_, fun i hi => ?_⟩
      · rcases Nat.lt_or_ge b w.heap.size with hlt | hge
        · exact hlt
        · simp [World.cell?, Array.getElem?_eq_none hge] at hc0
      · rw [hlen] at hi
        have := hc i (by omega)
        rw [add_none] at this
        rw [this]
        simp [List.getD_eq_getElem?_getD, List.getElem?_eq_getElem (show i < zs.length by omega)]

theorem open_asks {n : Nat} {v : Value} {x : DataW H × List MemPlace} (h : DataW.trod enc Tryz.prog w base spare held n 32 [v] = some x) :
    ∃ (l : List (ByteArray × Int)) (aa : Option Addr) (ca : Nat), v = .slice aa l.length ca ∧ AsksIn w aa l ∧ ∀ a ∈ l, a.1.size ≤ Rows.uptoBulk x.1 := by
  rcases open_slice_pairs Tryz.underlying32 Tryz.underlying56 (by kernel_rfl) rfl rfl (by kernel_rfl) (by kernel_rfl) h with ⟨h0, _⟩ | ⟨a, len, cap, m, k, V0, V1, D0, D1, P0, P1, h0, _, hl, _, hm, hx, hc⟩
  · simp only [List.cons.injEq, and_true] at h0
    exact ⟨[], none, 0, h0, .inl rfl, fun a ha => by cases ha⟩
  · simp only [List.cons.injEq, and_true] at h0
    have hml : len ≤ m := by rw [hm]; split <;> omega
    have each : ∀ i, i < len → ∃ q : ByteArray × Int, (w.cell? (a.add (i * 2)) = some (.string q.1) ∧ w.cell? (a.add (i * 2 + 1)) = some (.int .i64 q.2)) ∧ q.1.size ≤ Rows.uptoBulk (DataW.agg [D0 i, D1 i]) := by
      intro i hi
      obtain ⟨c0, c1, t0, t1⟩ := hc i (by omega)
      obtain ⟨f, hf, hf', _⟩ := DataW.trod_string Tryz.underlying9 t0
      obtain ⟨y, hy, _⟩ := DataW.trod_int Tryz.underlying3 t1
      simp only [List.cons.injEq, and_true] at hf hy
      refine ⟨(f, y), ⟨by rw [c0, hf], by rw [c1, hy]⟩, ?_⟩
      have hd0 : D0 i = _ := congrArg Prod.fst hf'
      simp only [hd0, Rows.uptoBulk, Rows.uptoBulkAll]
      have e : f.data.toList.length = f.size := by simp
      omega
    obtain ⟨q, hq⟩ := choose_lt each
    refine ⟨(List.range len).map q, some a, cap, by simpa using h0, ?_, ?_⟩
    rotate_left
    · intro z hz
      obtain ⟨i, hi, rfl⟩ := List.mem_map.1 hz
      have h1 := (hq i (List.mem_range.1 hi)).2
      have h2 := bulk_mem (H := H) (List.mem_map.2 ⟨i, hi, rfl⟩ : DataW.agg [D0 i, D1 i] ∈ (List.range len).map fun i => DataW.agg [D0 i, D1 i])
      rw [hx]
      simp only [Rows.uptoBulk] at h1 h2 ⊢
      omega
    by_cases h1 : len = 0
    · left; rw [h1]; rfl
    · right
      have hc0 := (hq 0 (by omega)).1.1
      rw [Nat.zero_mul] at hc0
      obtain ⟨b, o, rfl⟩ := spot_none hc0
      rw [add_none] at hc0
      refine ⟨b, o, rfl, ?_, fun i hi => ?_⟩
      · rcases Nat.lt_or_ge b w.heap.size with hlt | hge
        · exact hlt
        · simp [World.cell?, Array.getElem?_eq_none hge] at hc0
      · have hi' : i < len := by simpa using hi
        have := (hq i hi').1
        rw [add_none, add_none] at this
        simpa [Nat.add_assoc] using this

set_option maxRecDepth 100000 in
theorem array14 {cs : Array Value} (h : cs.size = 14) : ∃ c0 c1 c2 c3 c4 c5 c6 c7 c8 c9 c10 c11 c12 c13, cs = #[c0, c1, c2, c3, c4, c5, c6, c7, c8, c9, c10, c11, c12, c13] := by
  obtain ⟨l⟩ := cs
  match l, h with
  | [c0, c1, c2, c3, c4, c5, c6, c7, c8, c9, c10, c11, c12, c13], _ => exact ⟨c0, c1, c2, c3, c4, c5, c6, c7, c8, c9, c10, c11, c12, c13, rfl⟩

set_option maxHeartbeats 2000000 in
set_option maxRecDepth 100000 in
theorem open_pku {r : Reach} {b0 : Nat} {v : Value} {d : DataW H} {ps : List MemPlace} (hv : Value.okWide Tryz.prog w r b0 35 v) (h : DataW.Trod enc Tryz.prog w base spare held 35 v d ps) :
    ∃ (p : Pk) (aa ac : Option Addr) (ca cc : Nat), v = pkV p aa ca ac cc ∧ AsksIn w aa p.asks ∧ IntsIn w ac p.codes ∧ p.topic.size ≤ Rows.uptoBulk d ∧ ∀ a ∈ p.asks, a.1.size ≤ Rows.uptoBulk d := by
  obtain ⟨cs, rfl, hsz⟩ := okWide_struct Tryz.underlying35 hv
  obtain ⟨c0, c1, c2, c3, c4, c5, c6, c7, c8, c9, c10, c11, c12, c13, rfl⟩ := array14 (hsz.trans (by kernel_rfl))
  obtain ⟨fuel, hf⟩ := h
  obtain ⟨xs, n, _, hx, _, hxl, hh⟩ := DataW.trod_struct Tryz.underlying35 hf
  have k3 : Tryz.prog.cellsOf 3 = 1 := by kernel_rfl
  have k4 : Tryz.prog.cellsOf 4 = 1 := by kernel_rfl
  have k9 : Tryz.prog.cellsOf 9 = 1 := by kernel_rfl
  have k22 : Tryz.prog.cellsOf 32 = 1 := by kernel_rfl
  have k23 : Tryz.prog.cellsOf 33 = 1 := by kernel_rfl
  have hxl' : xs.length = 14 := hxl
  obtain ⟨y0, z0⟩ := some_of (by omega) (hh 0 _ rfl)
  obtain ⟨y1, z1⟩ := some_of (by omega) (hh 1 _ rfl)
  obtain ⟨y2, z2⟩ := some_of (by omega) (hh 2 _ rfl)
  obtain ⟨y3, z3⟩ := some_of (by omega) (hh 3 _ rfl)
  obtain ⟨y4, z4⟩ := some_of (by omega) (hh 4 _ rfl)
  obtain ⟨y5, z5⟩ := some_of (by omega) (hh 5 _ rfl)
  obtain ⟨y6, z6⟩ := some_of (by omega) (hh 6 _ rfl)
  obtain ⟨y7, z7⟩ := some_of (by omega) (hh 7 _ rfl)
  obtain ⟨y8, z8⟩ := some_of (by omega) (hh 8 _ rfl)
  obtain ⟨y9, z9⟩ := some_of (by omega) (hh 9 _ rfl)
  obtain ⟨y10, z10⟩ := some_of (by omega) (hh 10 _ rfl)
  obtain ⟨y11, z11⟩ := some_of (by omega) (hh 11 _ rfl)
  obtain ⟨y12, z12⟩ := some_of (by omega) (hh 12 _ rfl)
  obtain ⟨y13, z13⟩ := some_of (by omega) (hh 13 _ rfl)
  have m10 := (hh 10 _ rfl).symm.trans z10
  have m12 := (hh 12 _ rfl).symm.trans z12
  simp only [Value.cells] at z0 z1 z2 z3 z4 z5 z6 z7 z8 z9 z10 z11 z12 z13
  obtain ⟨i0, e0, _⟩ := DataW.trod_int Tryz.underlying3 z0
  obtain ⟨i1, e1, _⟩ := DataW.trod_bool Tryz.underlying4 z1
  obtain ⟨i2, e2, _⟩ := DataW.trod_bool Tryz.underlying4 z2
  obtain ⟨i3, e3, _⟩ := DataW.trod_bool Tryz.underlying4 z3
  obtain ⟨i4, e4, _⟩ := DataW.trod_bool Tryz.underlying4 z4
  obtain ⟨i5, e5, _⟩ := DataW.trod_int Tryz.underlying3 z5
  obtain ⟨i6, e6, _⟩ := DataW.trod_int Tryz.underlying3 z6
  obtain ⟨i7, e7, _⟩ := DataW.trod_int Tryz.underlying3 z7
  obtain ⟨i8, e8, _⟩ := DataW.trod_int Tryz.underlying3 z8
  obtain ⟨i9, e9, _⟩ := DataW.trod_string Tryz.underlying9 z9
  obtain ⟨i10, e10, e10', _⟩ := DataW.trod_string Tryz.underlying9 z10
  obtain ⟨i11, e11, _⟩ := DataW.trod_string Tryz.underlying9 z11
  obtain ⟨l, aa, ca, e12, hA, hU⟩ := open_asks z12
  obtain ⟨cs, ac, cc, e13, hC⟩ := open_codes z13
  have f0 : c0 = .int .i64 i0 := by simpa [k3, k4, k9] using e0
  have f1 : c1 = .bool i1 := by simpa [k3, k4, k9] using e1
  have f2 : c2 = .bool i2 := by simpa [k3, k4, k9] using e2
  have f3 : c3 = .bool i3 := by simpa [k3, k4, k9] using e3
  have f4 : c4 = .bool i4 := by simpa [k3, k4, k9] using e4
  have f5 : c5 = .int .i64 i5 := by simpa [k3, k4, k9] using e5
  have f6 : c6 = .int .i64 i6 := by simpa [k3, k4, k9] using e6
  have f7 : c7 = .int .i64 i7 := by simpa [k3, k4, k9] using e7
  have f8 : c8 = .int .i64 i8 := by simpa [k3, k4, k9] using e8
  have f9 : c9 = .string i9 := by simpa [k3, k4, k9] using e9
  have f10 : c10 = .string i10 := by simpa [k3, k4, k9] using e10
  have f11 : c11 = .string i11 := by simpa [k3, k4, k9] using e11
  subst f0 f1 f2 f3 f4 f5 f6 f7 f8 f9 f10 f11 e12 e13
  refine ⟨⟨i0, i1, i2, i3, i4, i5, i6, i7, i8, i9, i10, i11, l, cs⟩, aa, ac, ca, cc, rfl, hA, hC, ?_, ?_⟩
  · have hm : y10 ∈ xs := List.mem_of_getElem? m10
    have h2 := bulk_mem (H := H) (List.mem_map.2 ⟨y10, hm, rfl⟩ : y10.1 ∈ xs.map fun x => x.1)
    have hd : d = _ := congrArg Prod.fst hx
    have e : i10.data.toList.length = i10.size := by simp
    rw [hd]
    rw [e10'] at h2
    simp only [Rows.uptoBulk] at h2 ⊢
    omega
  · intro a ha
    have hm : y12 ∈ xs := List.mem_of_getElem? m12
    have h2 := bulk_mem (H := H) (List.mem_map.2 ⟨y12, hm, rfl⟩ : y12.1 ∈ xs.map fun x => x.1)
    have hd : d = _ := congrArg Prod.fst hx
    have h3 := hU a ha
    rw [hd]
    simp only [Rows.uptoBulk] at h2 ⊢
    omega
set_option maxRecDepth 100000 in
theorem open_pk {r : Reach} {b0 : Nat} {v : Value} {d : DataW H} {ps : List MemPlace} (hv : Value.okWide Tryz.prog w r b0 35 v) (h : DataW.Trod enc Tryz.prog w base spare held 35 v d ps) :
    ∃ (p : Pk) (aa ac : Option Addr) (ca cc : Nat), v = pkV p aa ca ac cc ∧ AsksIn w aa p.asks ∧ IntsIn w ac p.codes := by
  obtain ⟨p, aa, ac, ca, cc, h1, h2, h3, _⟩ := open_pku hv h
  exact ⟨p, aa, ac, ca, cc, h1, h2, h3⟩
end
end Go.Proofs.YtnjdpibgfbbkcabGreatDoor
