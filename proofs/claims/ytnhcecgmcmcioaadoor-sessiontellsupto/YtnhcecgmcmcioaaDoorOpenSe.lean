/-
  A session among the arguments, opened: where its two rows lie.
-/
import Derived.Test.YtnhcecgmcmcioaaDoorSesMath
import Derived.Test.YtnhcecgmcmcioaaDoorOpenBase
import Derived.Deep.Strs
namespace Go.Proofs.YtnhcecgmcmcioaaDoor
open Go.RowKit Go.ChangeShapes Go.WideShapes Go.Deep

section
variable {H : Type} {enc : TypeId × Value → H} {w : World} {base : Nat} {spare : Nat → Bool} {held : Bool}

set_option maxRecDepth 100000 in
theorem open_fls {n : Nat} {v : Value} {d : DataW H} {ps : List MemPlace} (h : DataW.trod enc Tryd.prog w base spare held n 22 [v] = some (d, ps)) :
    ∃ (l : List Fl) (ao : Option Addr) (co : Nat), v = .slice ao l.length co ∧ FlsIn w ao l ∧ l.length ≤ co ∧ ∀ k ∈ l, k.topic.size ≤ Rows.uptoBulk d := by
  have ce : Tryd.prog.cellsOf 46 = 3 := by kernel_rfl
  have k3 : Tryd.prog.cellsOf 3 = 1 := by kernel_rfl
  have k4 : Tryd.prog.cellsOf 9 = 1 := by kernel_rfl
  rcases open_slice Tryd.underlying22 h with ⟨h0, _⟩ | ⟨a, len, cap, m, n, D, Pl, h0, _, hl, _, hm, hx, hc⟩
  · exact ⟨[], none, 0, by simpa using h0, .inl rfl, Nat.le_refl _, fun k hk => by simp at hk⟩
  · have hml : len ≤ m := by rw [hm]; split <;> omega
    have each : ∀ i, i < len → ∃ q : Fl, q.topic.size ≤ Rows.uptoBulk (D i) ∧ w.cell? (a.add (i * 3)) = some (.int .i64 q.id) ∧ w.cell? (a.add (i * 3 + 1)) = some (.string q.topic) ∧ w.cell? (a.add (i * 3 + 2)) = some (.string q.load) := by
      intro i hi
      obtain ⟨cs', h1, h2⟩ := hc i (by omega)
      rw [ce] at h1
      obtain ⟨_, hlen, hcell⟩ := World.cells?_some h1
      obtain ⟨y0, y1, y2, n', hD, _, g0, g1, g2⟩ := trod_struct3 Tryd.underlying46 h2
      match cs', hlen with
      | [v0, v1, v2], _ =>
        obtain ⟨i0, e0, _⟩ := DataW.trod_int Tryd.underlying3 g0
        obtain ⟨i1, e1, e1', _⟩ := DataW.trod_string Tryd.underlying9 g1
        obtain ⟨i2, e2, _⟩ := DataW.trod_string Tryd.underlying9 g2
        have f0 : v0 = .int .i64 i0 := by simpa [k3, k4] using e0
        have f1 : v1 = .string i1 := by simpa [k3, k4] using e1
        have f2 : v2 = .string i2 := by simpa [k3, k4] using e2
        subst f0 f1 f2
        have c0 := hcell 0 (by omega)
        have c1 := hcell 1 (by omega)
        have c2 := hcell 2 (by omega)
        rw [add_add] at c0 c1 c2
        have hbk : i1.size ≤ Rows.uptoBulk (D i) := by
          have hD1 : D i = .agg [y0.1, y1.1, y2.1] := congrArg Prod.fst hD
          rw [hD1, e1']
          have e : i1.data.toList.length = i1.size := by simp
          simp only [Rows.uptoBulk, Rows.uptoBulkAll]
          omega
        exact ⟨⟨i0, i1, i2⟩, hbk, by simpa using c0, by simpa using c1, by simpa using c2⟩
    have : Inhabited Fl := ⟨flZ⟩
    obtain ⟨q, hq⟩ := choose_lt each
    refine ⟨(List.range len).map q, some a, cap, by simpa using h0, ?_, by simpa using hl, ?_⟩
    rotate_left
    · intro k hk
      obtain ⟨i, hi, rfl⟩ := List.mem_map.1 hk
      have hi' : i < len := List.mem_range.1 hi
      have h1 := (hq i hi').1
      have h2 := bulk_mem (H := H) (List.mem_map.2 ⟨i, hi, rfl⟩ : D i ∈ (List.range len).map D)
      rw [show d = _ from congrArg Prod.fst hx]
      simp only [Rows.uptoBulk]
      omega
    by_cases h1 : len = 0
    · left; rw [h1]; rfl
    · right
      have hc0 := (hq 0 (by omega)).2.1
      rw [Nat.zero_mul] at hc0
      obtain ⟨b, o, rfl⟩ := spot_none hc0
      rw [add_none] at hc0
      refine ⟨b, o, rfl, ?_, fun i hi => ?_⟩
      · rcases Nat.lt_or_ge b w.heap.size with hlt | hge
        · exact hlt
        · simp [World.cell?, Array.getElem?_eq_none hge] at hc0
      · have hi' : i < len := by simpa using hi
        have := (hq i hi').2
        rw [add_none, add_none, add_none] at this
        simpa [Nat.add_assoc] using this
theorem array6 {cs : Array Value} (h : cs.size = 6) : ∃ c0 c1 c2 c3 c4 c5, cs = #[c0, c1, c2, c3, c4, c5] := by
  obtain ⟨l⟩ := cs
  match l, h with
  | [c0, c1, c2, c3, c4, c5], _ => exact ⟨c0, c1, c2, c3, c4, c5, rfl⟩

set_option maxHeartbeats 2000000 in
set_option maxRecDepth 100000 in
theorem open_se {r : Reach} {b0 : Nat} {v : Value} {d : DataW H} {ps : List MemPlace} (hv : Value.okWide Tryd.prog w r b0 24 v) (h : DataW.Trod enc Tryd.prog w base spare held 24 v d ps) :
    ∃ (s : Se) (aa ab : Option Addr) (ca cb : Nat), v = seV s aa ca ab cb ∧ SeIn w s aa ab ∧ s.fl.length ≤ ca ∧ s.qu.length ≤ cb ∧ s.client.size ≤ Rows.uptoBulk d ∧ ∀ f, f ∈ s.fl ∨ f ∈ s.qu → f.topic.size ≤ Rows.uptoBulk d := by
  obtain ⟨cs, rfl, hsz⟩ := okWide_struct Tryd.underlying24 hv
  obtain ⟨c0, c1, c2, c3, c4, c5, rfl⟩ := array6 (hsz.trans (by kernel_rfl))
  obtain ⟨fuel, hf⟩ := h
  obtain ⟨xs, n, _, hx, _, hxl, hh⟩ := DataW.trod_struct Tryd.underlying24 hf
  have k3 : Tryd.prog.cellsOf 3 = 1 := by kernel_rfl
  have k4 : Tryd.prog.cellsOf 4 = 1 := by kernel_rfl
  have k9 : Tryd.prog.cellsOf 9 = 1 := by kernel_rfl
  have k22 : Tryd.prog.cellsOf 22 = 1 := by kernel_rfl
  have hxl' : xs.length = 6 := hxl
  obtain ⟨y0, z0⟩ := some_of (by omega) (hh 0 _ rfl)
  obtain ⟨y1, z1⟩ := some_of (by omega) (hh 1 _ rfl)
  obtain ⟨y2, z2⟩ := some_of (by omega) (hh 2 _ rfl)
  obtain ⟨y3, z3⟩ := some_of (by omega) (hh 3 _ rfl)
  obtain ⟨y4, z4⟩ := some_of (by omega) (hh 4 _ rfl)
  obtain ⟨y5, z5⟩ := some_of (by omega) (hh 5 _ rfl)
  have m0 := (hh 0 _ rfl).symm.trans z0
  have m3 := (hh 3 _ rfl).symm.trans z3
  have m4 := (hh 4 _ rfl).symm.trans z4
  simp only [Value.cells] at z0 z1 z2 z3 z4 z5
  obtain ⟨i0, e0, e0', _⟩ := DataW.trod_string Tryd.underlying9 z0
  obtain ⟨i1, e1, _⟩ := DataW.trod_bool Tryd.underlying4 z1
  obtain ⟨i2, e2, _⟩ := DataW.trod_bool Tryd.underlying4 z2
  obtain ⟨i5, e5, _⟩ := DataW.trod_int Tryd.underlying3 z5
  have w3 : DataW.trod enc Tryd.prog w base spare held n 22 [c3] = some (y3.1, y3.2) := by simpa [k3, k4, k9, k22] using z3
  have w4 : DataW.trod enc Tryd.prog w base spare held n 22 [c4] = some (y4.1, y4.2) := by simpa [k3, k4, k9, k22] using z4
  obtain ⟨l, aa, ca, e3, hA, hc3, hU⟩ := open_fls w3
  obtain ⟨u, ab, cb, e4, hB, hc4, hV⟩ := open_fls w4
  have f0 : c0 = .string i0 := by simpa [k3, k4, k9] using e0
  have f1 : c1 = .bool i1 := by simpa [k3, k4, k9] using e1
  have f2 : c2 = .bool i2 := by simpa [k3, k4, k9] using e2
  have f5 : c5 = .int .i64 i5 := by simpa [k3, k4, k9] using e5
  subst f0 f1 f2 f5 e3 e4
  have hd : d = _ := congrArg Prod.fst hx
  have hb : ∀ y, y ∈ xs → Rows.uptoBulk y.1 ≤ Rows.uptoBulk d := fun y hm => by
    have h2 := bulk_mem (H := H) (List.mem_map.2 ⟨y, hm, rfl⟩ : y.1 ∈ xs.map fun x => x.1)
    rw [hd]
    simp only [Rows.uptoBulk]
    omega
  refine ⟨⟨i0, i1, i2, l, u, i5⟩, aa, ab, ca, cb, rfl, ⟨hA, hB⟩, hc3, hc4, ?_, ?_⟩
  · show i0.size ≤ _
    have h2 := hb y0 (List.mem_of_getElem? m0)
    have e : i0.data.toList.length = i0.size := by simp
    rw [e0'] at h2
    simp only [Rows.uptoBulk] at h2
    omega
  · rintro f (hf | hf)
    · exact Nat.le_trans (hU f hf) (hb y3 (List.mem_of_getElem? m3))
    · exact Nat.le_trans (hV f hf) (hb y4 (List.mem_of_getElem? m4))
end
end Go.Proofs.YtnhcecgmcmcioaaDoor
