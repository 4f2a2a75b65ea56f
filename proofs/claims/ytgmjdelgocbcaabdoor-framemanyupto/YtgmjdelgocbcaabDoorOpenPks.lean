/-
  A row of packets among the arguments, opened: where it lies.
-/
import Derived.Test.YtgmjdelgocbcaabDoorFrameBase
import Derived.Test.YtgmjdelgocbcaabDoorOpenPacket
import Derived.Deep.Strs
namespace Go.Proofs.YtgmjdelgocbcaabDoor
open Go.RowKit Go.ChangeShapes Go.WideShapes Go.Deep

theorem bulk_pos {H : Type} (d : DataW H) : 1 ≤ Rows.uptoBulk d := by
  cases d with
  | lit l => cases l <;> simp [Rows.uptoBulk]
  | _ => simp [Rows.uptoBulk]
theorem bulk_len {H : Type} : ∀ l : List (DataW H), l.length ≤ Rows.uptoBulkAll l
  | [] => Nat.zero_le _
  | y :: l => by
    have h1 := bulk_pos y
    have h2 := bulk_len l
    simp only [Rows.uptoBulkAll, List.length_cons]
    omega
section
variable {H : Type} {enc : TypeId × Value → H} {w : World} {base : Nat} {spare : Nat → Bool} {held : Bool}

set_option maxHeartbeats 2000000 in
set_option maxRecDepth 100000 in
theorem open_cells14 {n : Nat} {c0 c1 c2 c3 c4 c5 c6 c7 c8 c9 c10 c11 c12 c13 : Value} {x : DataW H × List MemPlace} (hf : DataW.trod enc Tryd.prog w base spare held n 25 [c0, c1, c2, c3, c4, c5, c6, c7, c8, c9, c10, c11, c12, c13] = some x) :
    ∃ q : Lp, [c0, c1, c2, c3, c4, c5, c6, c7, c8, c9, c10, c11, c12, c13] = lpC q ∧ PkIn w q.p q.aa q.ac := by
  obtain ⟨xs, n, _, _, _, hxl, hh⟩ := DataW.trod_struct Tryd.underlying25 hf
  have k3 : Tryd.prog.cellsOf 3 = 1 := by kernel_rfl
  have k4 : Tryd.prog.cellsOf 4 = 1 := by kernel_rfl
  have k9 : Tryd.prog.cellsOf 9 = 1 := by kernel_rfl
  have k22 : Tryd.prog.cellsOf 22 = 1 := by kernel_rfl
  have k23 : Tryd.prog.cellsOf 23 = 1 := by kernel_rfl
  have hxl' : xs.length = 14 := hxl
  obtain ⟨y0, z0⟩ := some_of (by omega) (hh 0 _ rfl)
  obtain ⟨y1, z1⟩ := some_of (by omega) (hh 1 _ rfl)
  obtain ⟨y2, z2⟩ := some_of (by omega) (hh 2 _ rfl)
  obtain ⟨y3, z3⟩ := some_of (by omega) (hh 3 _ rfl)
  obtain ⟨y4, z4⟩ := some_of (by omega) (hh 4 _ rfl)
  obtain ⟨y5, z5⟩ := some_of (by omega) (hh 5 _ rfl)
  obtain ⟨y6, z6⟩ := some_of (by omega) (hh 6 _ rfl)
  obtain ⟨y7, z7⟩ := some_of (by omega) (hh 7 _ rfl)
  obtain ⟨y8, z8⟩ := some_of (by omega) (hh 8 _ rfl)
  obtain ⟨y9, z9⟩ := some_of (by omega) (hh 9 _ rfl)
  obtain ⟨y10, z10⟩ := some_of (by omega) (hh 10 _ rfl)
  obtain ⟨y11, z11⟩ := some_of (by omega) (hh 11 _ rfl)
  obtain ⟨y12, z12⟩ := some_of (by omega) (hh 12 _ rfl)
  obtain ⟨y13, z13⟩ := some_of (by omega) (hh 13 _ rfl)
  obtain ⟨i0, e0, _⟩ := DataW.trod_int Tryd.underlying3 z0
  obtain ⟨i1, e1, _⟩ := DataW.trod_bool Tryd.underlying4 z1
  obtain ⟨i2, e2, _⟩ := DataW.trod_bool Tryd.underlying4 z2
  obtain ⟨i3, e3, _⟩ := DataW.trod_bool Tryd.underlying4 z3
  obtain ⟨i4, e4, _⟩ := DataW.trod_bool Tryd.underlying4 z4
  obtain ⟨i5, e5, _⟩ := DataW.trod_int Tryd.underlying3 z5
  obtain ⟨i6, e6, _⟩ := DataW.trod_int Tryd.underlying3 z6
  obtain ⟨i7, e7, _⟩ := DataW.trod_int Tryd.underlying3 z7
  obtain ⟨i8, e8, _⟩ := DataW.trod_int Tryd.underlying3 z8
  obtain ⟨i9, e9, _⟩ := DataW.trod_string Tryd.underlying9 z9
  obtain ⟨i10, e10, _⟩ := DataW.trod_string Tryd.underlying9 z10
  obtain ⟨i11, e11, _⟩ := DataW.trod_string Tryd.underlying9 z11
  obtain ⟨l, aa, ca, e12, hA⟩ := open_asks z12
  obtain ⟨cs, ac, cc, e13, hC⟩ := open_codes z13
  have f0 : c0 = .int .i64 i0 := by simpa [k3, k4, k9] using e0
  have f1 : c1 = .bool i1 := by simpa [k3, k4, k9] using e1
  have f2 : c2 = .bool i2 := by simpa [k3, k4, k9] using e2
  have f3 : c3 = .bool i3 := by simpa [k3, k4, k9] using e3
  have f4 : c4 = .bool i4 := by simpa [k3, k4, k9] using e4
  have f5 : c5 = .int .i64 i5 := by simpa [k3, k4, k9] using e5
  have f6 : c6 = .int .i64 i6 := by simpa [k3, k4, k9] using e6
  have f7 : c7 = .int .i64 i7 := by simpa [k3, k4, k9] using e7
  have f8 : c8 = .int .i64 i8 := by simpa [k3, k4, k9] using e8
  have f9 : c9 = .string i9 := by simpa [k3, k4, k9] using e9
  have f10 : c10 = .string i10 := by simpa [k3, k4, k9] using e10
  have f11 : c11 = .string i11 := by simpa [k3, k4, k9] using e11
  subst f0 f1 f2 f3 f4 f5 f6 f7 f8 f9 f10 f11 e12 e13
  exact ⟨⟨⟨i0, i1, i2, i3, i4, i5, i6, i7, i8, i9, i10, i11, l, cs⟩, aa, ca, ac, cc⟩, rfl, hA, hC⟩

set_option maxHeartbeats 1000000 in
set_option maxRecDepth 100000 in
theorem open_pks {r : Reach} {b0 : Nat} {v : Value} {d : DataW H} {ps : List MemPlace} (hv0 : Value.okWide Tryd.prog w r b0 36 v) (h : DataW.Trod enc Tryd.prog w base spare held 36 v d ps) :
    ∃ (l : List Lp) (ao : Option Addr) (co : Nat), v = .slice ao l.length co ∧ Lies 0 w ao l ∧ (Rows.uptoBulk d ≤ 1048576 → l.length ≤ 1048576) := by
  obtain ⟨a0, n0, c0, rfl⟩ := okWide_slice Tryd.underlying36 hv0
  obtain ⟨fuel, hf⟩ := h
  have ce : Tryd.prog.cellsOf 25 = 14 := by kernel_rfl
  rcases open_slice Tryd.underlying36 hf with ⟨h0, _⟩ | ⟨a, len, cap, m, n, D, Pl, h0, _, hl, _, hm, hx, hc⟩
  · exact ⟨[], none, 0, by simpa [Value.cells] using h0, ⟨.inl rfl, fun q hq => by simp at hq⟩, fun _ => by simp⟩
  · have hv : Value.slice a0 n0 c0 = .slice (some a) len cap := by simpa [Value.cells] using h0
    have hml : len ≤ m := by rw [hm]; split <;> omega
    have each : ∀ i, i < len → ∃ q : Lp, PkIn w q.p q.aa q.ac ∧ ∀ j (hj : j < 14), w.cell? (a.add (i * 14 + j)) = (lpC q)[j]? := by
      intro i hi
      obtain ⟨cs', h1, h2⟩ := hc i (by omega)
      rw [ce] at h1
      obtain ⟨_, hlen, hcell⟩ := World.cells?_some h1
      match cs', hlen with
      | [v0, v1, v2, v3, v4, v5, v6, v7, v8, v9, v10, v11, v12, v13], _ =>
        obtain ⟨q, hq, hin⟩ := open_cells14 h2
        refine ⟨q, hin, fun j hj => ?_⟩
        have := hcell j (by omega)
        rw [add_add] at this
        rw [this, ← hq]
    have : Inhabited Lp := ⟨⟨⟨0, false, false, false, false, 0, 0, 0, 0, ⟨#[]⟩, ⟨#[]⟩, ⟨#[]⟩, [], []⟩, none, 0, none, 0⟩⟩
    obtain ⟨q, hq⟩ := choose_lt each
    refine ⟨(List.range len).map q, some a, cap, by simpa using hv, ⟨?_, fun x hx => ?_⟩, fun hb => ?_⟩
    · by_cases h1 : len = 0
      · left; rw [h1]; rfl
      · right
        have hc0 := (hq 0 (by omega)).2 0 (by omega)
        rw [Nat.zero_mul] at hc0
        obtain ⟨b, o, rfl⟩ := spot_none (v := .int .i64 (q 0).p.kind) hc0
        rw [add_none] at hc0
        refine ⟨b, o, rfl, ?_, fun j u hu => ?_⟩
        · rcases Nat.lt_or_ge b w.heap.size with hlt | hge
          · exact hlt
          · simp [World.cell?, Array.getElem?_eq_none hge, lpC] at hc0
        · have hj : j < len * 14 := by
            have := (List.getElem?_eq_some_iff.1 hu).1
            rw [lpCells_len] at this
            simpa using this
          have e : j = j / 14 * 14 + j % 14 := by omega
          have hi : j / 14 < len := by omega
          have hg := lpCells_get ((List.range len).map q) (j / 14) (j % 14) (by simpa using hi) (by omega)
          rw [← e, hu] at hg
          have := (hq (j / 14) hi).2 (j % 14) (by omega)
          rw [← e, add_none] at this
          rw [this, hg]
          simp
    · obtain ⟨i, hi, rfl⟩ := List.mem_map.1 hx
      have hin := (hq i (List.mem_range.1 hi)).1
      refine ⟨hin, ?_, ?_⟩
      · rcases hin.1 with e | ⟨b, o, e, _⟩
        · exact .inl e
        · exact .inr ⟨b, o, e, Nat.zero_le _⟩
      · rcases hin.2 with e | ⟨b, o, e, _⟩
        · exact .inl e
        · exact .inr ⟨b, o, e, Nat.zero_le _⟩
    · rw [show d = _ from congrArg Prod.fst hx] at hb
      simp only [Rows.uptoBulk] at hb
      have := bulk_len (H := H) ((List.range len).map D)
      simp only [List.length_map, List.length_range] at this ⊢
      omega
end
end Go.Proofs.YtgmjdelgocbcaabDoor
