/-
  packet.reader's packet: what it reads.
-/
import Derived.Test.YtnjdpibgfbbkcabGreatDoorReaderLoops
import Derived.Test.YtnjdpibgfbbkcabGreatDoorPacketCheck
import Derived.Test.YtnjdpibgfbbkcabGreatDoorWriterKinds
namespace Go.Proofs.YtnjdpibgfbbkcabGreatDoor
open Go.RowKit Go.PlainAid Go.Deep

/-- a packet of which nothing is told -/
def zeroPk : Pk := ⟨0, false, false, false, false, 0, 0, 0, 0, ⟨#[]⟩, ⟨#[]⟩, ⟨#[]⟩, [], []⟩
/-- .. but its kind -/
def kPk (b : Nat) : Pk := { zeroPk with kind := (b : Int) / 16 }
/-- what is read of a packet's body -/
def bodyR (s : ByteArray) (n : Nat) (bad : Bool) (b : Nat) : Pk × Nat × Bool :=
  if (kPk b).kind = 1 then (conP s n (kPk b), conN5 s n, conB5 s n bad)
  else if (kPk b).kind = 2 then ({ kPk b with session := (getR s n (1 : Nat)).1 == 1, code := (getR s (rnAt s n 1) (1 : Nat)).1 }, rnAt s (rnAt s n 1) 1, rnBad s (rnAt s n 1) 1 (rmBad s n 1 bad))
  else if (kPk b).kind = 3 then (pubP s n b (kPk b), s.size, pubB s n b bad)
  else if (kPk b).kind = 12 ∨ (kPk b).kind = 13 ∨ (kPk b).kind = 14 then (kPk b, n, bad)
  else widR s n bad (kPk b)
/-- what is read of a packet -/
def packR (s : ByteArray) (n : Nat) (bad : Bool) (b : Nat) : Pk × Nat × Bool :=
  ((bodyR s n (bad || !kindB (kPk b).kind) b).1, (bodyR s n (bad || !kindB (kPk b).kind) b).2.1, (bodyR s n (bad || !kindB (kPk b).kind) b).2.2 || !(firstN (bodyR s n (bad || !kindB (kPk b).kind) b).1 == (b : Int)))

theorem bodyR_form (s : ByteArray) (n : Nat) (bad : Bool) (b : Nat) (hb : b < 256) : (0 ≤ (bodyR s n bad b).1.kind ∧ (bodyR s n bad b).1.kind ≤ 15) ∧ (0 ≤ (bodyR s n bad b).1.qos ∧ (bodyR s n bad b).1.qos ≤ 1) := by
  have hk : 0 ≤ (kPk b).kind ∧ (kPk b).kind ≤ 15 := by simp only [kPk]; omega
  have hq : (kPk b).qos = 0 := rfl
  unfold bodyR
  split
  · exact ⟨hk, by show 0 ≤ (0 : Int) ∧ (0 : Int) ≤ 1; decide⟩
  · split
    · exact ⟨hk, by show 0 ≤ (0 : Int) ∧ (0 : Int) ≤ 1; decide⟩
    · split
      · refine ⟨hk, ?_⟩
        simp only [pubP, hq]
        split <;> omega
      · split
        · exact ⟨hk, by show 0 ≤ (0 : Int) ∧ (0 : Int) ≤ 1; decide⟩
        · unfold widR
          split
          · exact ⟨hk, by show 0 ≤ (0 : Int) ∧ (0 : Int) ≤ 1; decide⟩
          · split
            · exact ⟨hk, by show 0 ≤ (0 : Int) ∧ (0 : Int) ≤ 1; decide⟩
            · exact ⟨hk, by show 0 ≤ (0 : Int) ∧ (0 : Int) ≤ 1; decide⟩

theorem askCells_get (l : List (ByteArray × Int)) (i : Nat) (h : i < l.length) : (askCells l)[i * 2]? = some (.string l[i].1) ∧ (askCells l)[i * 2 + 1]? = some (.int .i64 l[i].2) := by
  induction l generalizing i with
  | nil => simp at h
  | cons a l ih =>
    cases i with
    | zero => simp [askCells]
    | succ i =>
      have e : askCells (a :: l) = .string a.1 :: .int .i64 a.2 :: askCells l := rfl
      have := ih i (by simpa using h)
      rw [e, show (i + 1) * 2 = i * 2 + 1 + 1 by omega]
      simpa using this
theorem own_asks {w : World} {B : Nat} {aa : Option Addr} {ca : Nat} {l : List (ByteArray × Int)} (h : w.ownsRow B 56 2 (.slice aa l.length ca) l.length (askCells l)) : AsksIn w aa l := by
  rcases h.2 with ⟨_, h0⟩ | ⟨g, cap, cur, hv, hb, hg, _, _, _, htake⟩
  · exact .inl (List.length_eq_zero_iff.1 h0)
  · injection hv with ha _ _
    subst ha
    refine .inr ⟨g, 0, rfl, (Array.getElem?_eq_some_iff.1 hg).1, fun i hi => ?_⟩
    have hh := askCells_get l i hi
    rw [← htake, List.getElem?_take, List.getElem?_take, if_pos (by omega), if_pos (by omega)] at hh
    rw [Nat.zero_add, Lib.cell_of_heap hg, Lib.cell_of_heap hg]
    exact ⟨by simpa using hh.1, by simpa using hh.2⟩
theorem own_ints {w : World} {B : Nat} {aa : Option Addr} {ca : Nat} {l : List Int} (h : w.ownsRow B 3 1 (.slice aa l.length ca) l.length (intCells l)) : IntsIn w aa l := by
  rcases h.2 with ⟨_, h0⟩ | ⟨g, cap, cur, hv, hb, hg, _, _, _, htake⟩
  · exact .inl (List.length_eq_zero_iff.1 h0)
  · injection hv with ha _ _
    subst ha
    refine .inr ⟨g, 0, rfl, (Array.getElem?_eq_some_iff.1 hg).1, fun i hi => ?_⟩
    have hh : (intCells l)[i]? = some (.int .i64 l[i]) := by simp [intCells, hi]
    rw [← htake, List.getElem?_take, if_pos (by omega)] at hh
    rw [Nat.zero_add, Lib.cell_of_heap hg]
    simpa using hh

/-- .. and their lists lie from B on -/
def PkInB (B : Nat) (w : World) (p : Pk) (aa ac : Option Addr) : Prop := PkIn w p aa ac ∧ (p.asks = [] ∨ ∃ b o, aa = some ⟨b, o, none⟩ ∧ B ≤ b) ∧ (p.codes = [] ∨ ∃ b o, ac = some ⟨b, o, none⟩ ∧ B ≤ b)
theorem own_ge {w : World} {B : Nat} {aa : Option Addr} {ca : Nat} {l : List (ByteArray × Int)} (h : w.ownsRow B 56 2 (.slice aa l.length ca) l.length (askCells l)) : l = [] ∨ ∃ b o, aa = some ⟨b, o, none⟩ ∧ B ≤ b := by
  rcases h.2 with ⟨_, h0⟩ | ⟨g, cap, cur, hv, hb, _⟩
  · exact .inl (List.length_eq_zero_iff.1 h0)
  · injection hv with ha _ _
    exact .inr ⟨g, 0, ha, hb⟩
theorem own_gi {w : World} {B : Nat} {aa : Option Addr} {ca : Nat} {l : List Int} (h : w.ownsRow B 3 1 (.slice aa l.length ca) l.length (intCells l)) : l = [] ∨ ∃ b o, aa = some ⟨b, o, none⟩ ∧ B ≤ b := by
  rcases h.2 with ⟨_, h0⟩ | ⟨g, cap, cur, hv, hb, _⟩
  · exact .inl (List.length_eq_zero_iff.1 h0)
  · injection hv with ha _ _
    exact .inr ⟨g, 0, ha, hb⟩
theorem PkInB.keep {B C : Nat} {w w' : World} {p : Pk} {aa ac : Option Addr} (h : PkInB B w p aa ac) (hC : C ≤ B) (hs : w.heap.size ≤ w'.heap.size) (hk : ∀ k, B ≤ k → k < w.heap.size → w'.heap[k]? = w.heap[k]?) : PkInB C w' p aa ac := by
  obtain ⟨⟨h1, h2⟩, h3, h4⟩ := h
  refine ⟨⟨?_, ?_⟩, h3.imp id fun ⟨b, o, x, y⟩ => ⟨b, o, x, Nat.le_trans hC y⟩, h4.imp id fun ⟨b, o, x, y⟩ => ⟨b, o, x, Nat.le_trans hC y⟩⟩
  · rcases h1 with h1 | ⟨b, o, x1, x2, x3⟩
    · exact .inl h1
    · rcases h3 with h3 | ⟨b', o', y1, y2⟩
      · exact .inl h3
      · rw [x1] at y1
        injection y1 with y1
        injection y1 with y1 _ _
        subst y1
        refine .inr ⟨b, o, x1, by omega, fun i hi => ?_⟩
        rw [World.cell?_of_block (w := w) (a := ⟨b, _, none⟩) (hk b y2 x2), World.cell?_of_block (w := w) (a := ⟨b, _, none⟩) (hk b y2 x2)]
        exact x3 i hi
  · rcases h2 with h2 | ⟨b, o, x1, x2, x3⟩
    · exact .inl h2
    · rcases h4 with h4 | ⟨b', o', y1, y2⟩
      · exact .inl h4
      · rw [x1] at y1
        injection y1 with y1
        injection y1 with y1 _ _
        subst y1
        refine .inr ⟨b, o, x1, by omega, fun i hi => ?_⟩
        rw [World.cell?_of_block (w := w) (a := ⟨b, _, none⟩) (hk b y2 x2)]
        exact x3 i hi

theorem rp_final {B br r4 : Nat} {s : ByteArray} {R : Pk × Nat × Bool} {q : Pk} {nq : Nat} {bq : Bool} {aa ac : Option Addr} {ca cc : Nat} {w w4 W' : World} (hres : R = (q, nq, bq))
    (hA : w4.ownsRow B 56 2 (.slice aa q.asks.length ca) q.asks.length (askCells q.asks)) (hC : w4.ownsRow B 3 1 (.slice ac q.codes.length cc) q.codes.length (intCells q.codes))
    (hR : Rd br s nq bq w4) (hZ : PAt r4 zeroPk (.slice none 0 0) (.slice none 0 0) w4) (hB : Below B w w4) (hr : B ≤ r4) (hbr : br ≠ r4) (hB4 : B ≤ w4.heap.size) (hk : Kx r4 r4 w4 W') :
    ∃ aa' ca' ac' cc', Ending.returned (pkV q aa ca ac cc) = .returned (pkV R.1 aa' ca' ac' cc') ∧ PkInB B W' R.1 aa' ac' ∧ Rd br s R.2.1 R.2.2 W' ∧ Below B w W' := by
  subst hres
  have kA : W'.ownsRow B 56 2 (.slice aa q.asks.length ca) q.asks.length (askCells q.asks) := own_kept hA fun g hg => hk.block g (own_lt hA g hg).2 (fun e => own_ne hA hZ (by decide) (by rw [hg, e])) (fun e => own_ne hA hZ (by decide) (by rw [hg, e]))
  have kC : W'.ownsRow B 3 1 (.slice ac q.codes.length cc) q.codes.length (intCells q.codes) := own_kept hC fun g hg => hk.block g (own_lt hC g hg).2 (fun e => own_ne hC hZ (by decide) (by rw [hg, e])) (fun e => own_ne hC hZ (by decide) (by rw [hg, e]))
  refine ⟨aa, ca, ac, cc, rfl, ⟨⟨own_asks kA, own_ints kC⟩, own_ge kA, own_gi kC⟩, ?_, hB.trans (hk.below hB4 hr hr)⟩
  have := hR.lt
  unfold Rd at *
  rw [hk.block br this hbr hbr]
  exact hR
end Go.Proofs.YtnjdpibgfbbkcabGreatDoor
