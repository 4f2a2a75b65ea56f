/-
  packet.reader's asks: the function literal that reads one ask.
-/
import Derived.Test.YtnjdpibgfbbkcabGreatDoorReaderBase
import Derived.Deep.AppendLies
import Derived.Deep.RegionLaw
namespace Go.Proofs.YtnjdpibgfbbkcabGreatDoor
open Go.RowKit Go.PlainAid Go.Deep

/-- below B all is as it was, and so is above whatever is no row of this type, but two blocks -/
structure Kt (B a b : Nat) (T : TypeId) (w w' : World) : Prop where
  os : w'.os = w.os
  tape : w'.tape = w.tape
  output : w'.output = w.output
  size : w.heap.size ≤ w'.heap.size
  block : ∀ k, k < B → w'.heap[k]? = w.heap[k]?
  others : ∀ k o, w.heap[k]? = some o → k ≠ a → k ≠ b → (∀ c fz, o ≠ .cells c T fz) → w'.heap[k]? = some o

theorem Kt.refl (B a b : Nat) (T : TypeId) (w : World) : Kt B a b T w w := ⟨rfl, rfl, rfl, Nat.le_refl _, fun _ _ => rfl, fun _ _ h _ _ _ => h⟩
theorem Kt.trans {B a b : Nat} {T : TypeId} {u v w : World} (h : Kt B a b T u v) (k : Kt B a b T v w) : Kt B a b T u w :=
  ⟨k.os.trans h.os, k.tape.trans h.tape, k.output.trans h.output, Nat.le_trans h.size k.size, fun i hi => (k.block i hi).trans (h.block i hi), fun i o hi ha hb ho => k.others i o (h.others i o hi ha hb ho) ha hb ho⟩
theorem Kt.of_kx {B a b : Nat} {T : TypeId} {w w' : World} (h : Kx a b w w') (ha : B ≤ a) (hb : B ≤ b) (hB : B ≤ w.heap.size) : Kt B a b T w w' :=
  ⟨h.os, h.tape, h.output, h.size, fun k hk => h.block k (by omega) (by omega) (by omega), fun k o hk h1 h2 _ => by rw [h.block k (Array.getElem?_eq_some_iff.1 hk).1 h1 h2]; exact hk⟩
theorem Kt.below {B a b : Nat} {T : TypeId} {w w' : World} (h : Kt B a b T w w') : Below B w w' := ⟨h.os, h.tape, h.output, h.size, h.block⟩

/-- a packet's fields in block b; its two lists' values -/
def PAt (b : Nat) (p : Pk) (va vc : Value) (w : World) : Prop :=
  w.heap[b]? = some (.cells #[.int .i64 p.kind, .bool p.dup, .bool p.retain, .bool p.clean, .bool p.session, .int .i64 p.qos, .int .i64 p.id, .int .i64 p.keep, .int .i64 p.code, .string p.client, .string p.topic, .string p.payload, va, vc] 35 (0, 0))
theorem PAt.lt {b : Nat} {p : Pk} {va vc : Value} {w : World} (h : PAt b p va vc w) : b < w.heap.size := (Array.getElem?_eq_some_iff.1 h).1
theorem PAt.cell {b : Nat} {p : Pk} {va vc : Value} {w : World} (h : PAt b p va vc w) (o : Nat) : w.cell? ⟨b, o, none⟩ = (#[.int .i64 p.kind, .bool p.dup, .bool p.retain, .bool p.clean, .bool p.session, .int .i64 p.qos, .int .i64 p.id, .int .i64 p.keep, .int .i64 p.code, .string p.client, .string p.topic, .string p.payload, va, vc] : Array Value)[o]? := Lib.cell_of_heap h o
theorem PAt.frozen {b : Nat} {p : Pk} {va vc : Value} {w : World} (h : PAt b p va vc w) (o : Nat) : w.frozen? ⟨b, o, none⟩ = false := Lib.frozen_of_heap h o
theorem PAt.set12 {b : Nat} {p : Pk} {va vc : Value} {w : World} (h : PAt b p va vc w) (v : Value) : PAt b p v vc (w.setCell ⟨b, 12, none⟩ v) := by
  unfold PAt at *; simp [World.setCell, Array.getElem?_modify, h]
theorem PAt.set13 {b : Nat} {p : Pk} {va vc : Value} {w : World} (h : PAt b p va vc w) (v : Value) : PAt b p va v (w.setCell ⟨b, 13, none⟩ v) := by
  unfold PAt at *; simp [World.setCell, Array.getElem?_modify, h]
theorem PAt.kx {a b : Nat} {p : Pk} {va vc : Value} {w w' : World} (h : PAt b p va vc w) (hk : Kx a a w w') (hne : b ≠ a) : PAt b p va vc w' := by
  have := h.lt; unfold PAt at *; rw [hk.block b this hne hne]; exact h

def askCells (l : List (ByteArray × Int)) : List Value := l.flatMap fun a => [.string a.1, .int .i64 a.2]
theorem askCells_append (a b : List (ByteArray × Int)) : askCells (a ++ b) = askCells a ++ askCells b := by simp [askCells]

/-- one ask that is read -/
def a1 (s : ByteArray) (kind : Int) (n : Nat) : ByteArray × Int := ((gtR s n).1, if kind = 8 then (getR s (rtAt s n) (1 : Nat)).1 else 0)
def a1At (s : ByteArray) (kind : Int) (n : Nat) : Nat := if kind = 8 then rnAt s (rtAt s n) 1 else rtAt s n
def a1Bad (s : ByteArray) (kind : Int) (n : Nat) (bad : Bool) : Bool := if kind = 8 then rnBad s (rtAt s n) 1 (rtBad s n bad) else rtBad s n bad
/-- of those that are too many one is enough -/
def addTo {α : Type} (l : List α) (x : α) : List α := if l.length ≤ 5 then l ++ [x] else l

theorem own_form {w : World} {B : Nat} {e : TypeId} {size : Nat} {v : Value} {n : Nat} {xs : List Value} (h : w.ownsRow B e size v n xs) : ∃ ao cap, v = .slice ao n cap := by
  rcases h.2 with ⟨hv, h0⟩ | ⟨g, cap, cur, hv, _⟩
  · exact ⟨none, 0, by rw [hv, h0]⟩
  · exact ⟨_, _, hv⟩
theorem own_kept {w w' : World} {B : Nat} {e : TypeId} {size : Nat} {v : Value} {n : Nat} {xs : List Value} (h : w.ownsRow B e size v n xs) (hk : ∀ g, v.ownBlock = some g → w'.heap[g]? = w.heap[g]?) : w'.ownsRow B e size v n xs := by
  refine ⟨h.1, ?_⟩
  rcases h.2 with hn | ⟨g, cap, cur, rfl, hb, hg, rest⟩
  · exact .inl hn
  · exact .inr ⟨g, cap, cur, rfl, hb, by rw [hk g rfl]; exact hg, rest⟩
theorem own_ne {w : World} {B : Nat} {e T : TypeId} {size : Nat} {v : Value} {n : Nat} {xs : List Value} {b : Nat} {cs : Array Value} {fr : Nat × Nat} (hown : w.ownsRow B e size v n xs) (hb : w.heap[b]? = some (.cells cs T fr)) (hTe : T ≠ e) : v.ownBlock ≠ some b := by
  rcases hown.2 with ⟨rfl, _⟩ | ⟨g, cap, cur, rfl, _, hg, _⟩
  · simp [Value.ownBlock]
  · intro h
    simp only [Value.ownBlock, Option.some.injEq] at h
    subst h
    rw [hg] at hb
    simp only [Option.some.injEq, Obj.cells.injEq] at hb
    exact hTe hb.2.1.symm
theorem own_lt {w : World} {B : Nat} {e : TypeId} {size : Nat} {v : Value} {n : Nat} {xs : List Value} (h : w.ownsRow B e size v n xs) : ∀ k, v.ownBlock = some k → B ≤ k ∧ k < w.heap.size := by
  intro k hk
  rcases h.2 with ⟨rfl, _⟩ | ⟨g, cap, cur, rfl, hb, hg, _⟩
  · simp [Value.ownBlock] at hk
  · simp [Value.ownBlock] at hk
    subst hk
    exact ⟨hb, (Array.getElem?_eq_some_iff.1 hg).1⟩

theorem grow_block {W3 w4 : World} {O : Obj} {row : Option Nat} {k : Nat} (hg : (W3.drew.alloc O).grownBy w4 row) (hk : k < W3.heap.size) (hne : row ≠ some k) : w4.heap[k]? = W3.heap[k]? := by
  rw [hg.block k (by simp; omega) (fun e => hne e.symm)]
  exact Below.heap_alloc W3.drew O k hk
theorem grow_kt {W3 w4 : World} {O : Obj} {B a b : Nat} {T : TypeId} {v : Value} {n size : Nat} {xs : List Value} (hg : (W3.drew.alloc O).grownBy w4 v.ownBlock) (ho : W3.ownsRow B T size v n xs) (hB : B ≤ W3.heap.size) : Kt B a b T W3 w4 := by
  refine ⟨hg.os, hg.tape, hg.output, Nat.le_trans (by simp) hg.size, fun k hk => grow_block hg (by omega) (fun e => by have := (own_lt ho k e).1; omega), fun k o hk _ _ hu => ?_⟩
  rw [grow_block hg (Array.getElem?_eq_some_iff.1 hk).1 (fun e => ?_)]
  · exact hk
  · rcases ho.2 with ⟨rfl, _⟩ | ⟨g, cap, cur, rfl, _, hgg, _⟩
    · simp [Value.ownBlock] at e
    · simp only [Value.ownBlock, Option.some.injEq] at e
      subst e
      rw [hgg] at hk
      exact hu _ _ (Option.some.inj hk).symm

set_option maxHeartbeats 4000000 in
theorem asks1_any (B br bp c1 c2 : Nat) (s : ByteArray) (n : Nat) (bad : Bool) (p : Pk) (va vc : Value) (l : List (ByteArray × Int)) (w : World)
    (hB1 : B ≤ br) (hB2 : B ≤ bp) (hB : B ≤ w.heap.size) (hne : bp ≠ br)
    (hc1 : w.heap[c1]? = some (.cells #[.pointer (some ⟨br, 0, none⟩)] 76 (0, 0))) (hc2 : w.heap[c2]? = some (.cells #[.pointer (some ⟨bp, 0, none⟩)] 97 (0, 0)))
    (hR : Rd br s n bad w) (hs : s.size ≤ maxLen) (hn : n ≤ s.size) (hP : PAt bp p va vc w) (hO : w.ownsRow B 56 2 va l.length (askCells l)) (hl : l.length ≤ 6) :
    Calls Tryz.prog 91 #[.pointer (some ⟨c1, 0, none⟩), .pointer (some ⟨c2, 0, none⟩)] w fun e w' => e = .returned (.tuple #[]) ∧
      ∃ va', Rd br s (a1At s p.kind n) (a1Bad s p.kind n bad) w' ∧ PAt bp p va' vc w' ∧ w'.ownsRow B 56 2 va' (addTo l (a1 s p.kind n)).length (askCells (addTo l (a1 s p.kind n))) ∧ Kt B br bp 56 w w' := by
  have hc1n : c1 ≠ br := fun e => by unfold Rd at hR; rw [e, hR] at hc1; simp at hc1
  have hc2n : c2 ≠ br := fun e => by unfold Rd at hR; rw [e, hR] at hc2; simp at hc2
  have d1 : w.cell? ⟨c1, 0, none⟩ = some (.pointer (some ⟨br, 0, none⟩)) := by rw [Lib.cell_of_heap hc1]; rfl
  obtain ⟨ao, cap, rfl⟩ := own_form hO
  have HS := hide hs
  have HR := hide hR
  have HP := hide hP
  have HO := hide hO
  have HC2 := hide hc2
  have HC1 := hide hc1
  have hl1 := (Array.getElem?_eq_some_iff.1 hc1).1
  have hl2 := (Array.getElem?_eq_some_iff.1 hc2).1
  have hbp := hP.lt
  have hbr := hR.lt
  clear hs hR hP hO hc1 hc2
  go_enter Tryz.func91, Tryz.ntmps91
  go_wp2_with fail
  refine (rtext_any br s n bad _ HS.out hn HR.out).mono ?_
  rintro e w1 ⟨rfl, hr1, hk1⟩
  have HR1 := hide hr1
  have HK1 := hide hk1
  have HP1 := hide (HP.out.kx hk1 hne)
  have hs1 := hk1.size
  have d2 : w1.cell? ⟨c2, 0, none⟩ = some (.pointer (some ⟨bp, 0, none⟩)) := by rw [Lib.cell_of_heap ((hk1.block c2 hl2 hc2n hc2n).trans HC2.out)]; rfl
  have d1' : w1.cell? ⟨c1, 0, none⟩ = some (.pointer (some ⟨br, 0, none⟩)) := by rw [Lib.cell_of_heap ((hk1.block c1 hl1 hc1n hc1n).trans HC1.out)]; rfl
  have d3 : w1.cell? ⟨bp, 0, none⟩ = some (.int .i64 p.kind) := HP1.out.cell 0
  have hn1 := rtAt_le hn
  have hrow1 : w1.ownsRow B 56 2 (.slice ao l.length cap) l.length (askCells l) := own_kept HO.out fun g hg => hk1.block g (own_lt HO.out g hg).2 (fun e => own_ne HO.out HR.out (by decide) (by rw [hg, e])) (fun e => own_ne HO.out HR.out (by decide) (by rw [hg, e]))
  clear hr1 hk1 d1
  go_upto_region 1 with fail
  have hbl : Below w1.heap.size w1 (w1.alloc (.cells #[.string (gtR s n).1, .int .i64 0] 56)) := (Below.refl _ _).alloc (Nat.le_refl _) _
  have hnb : (w1.alloc (.cells #[.string (gtR s n).1, .int .i64 0] 56)).heap[w1.heap.size]? = some (.cells #[.string (gtR s n).1, .int .i64 0] 56) := Go.heap_alloc_new w1 _
  revert hbl hnb
  generalize w1.alloc (.cells #[.string (gtR s n).1, .int .i64 0] 56) = W
  intro hbl hnb
  have HR2 := hide (HR1.out.below hbl)
  have HP2 : Hid (PAt bp p (.slice ao l.length cap) vc W) := by have := HP1.out; unfold PAt at *; show _ = _; rw [hbl.block bp (by omega)]; exact this
  have HO2 : Hid (W.ownsRow B 56 2 (.slice ao l.length cap) l.length (askCells l)) := own_kept hrow1 fun g hg => hbl.block g (own_lt hrow1 g hg).2
  have e2 : W.cell? ⟨c2, 0, none⟩ = some (.pointer (some ⟨bp, 0, none⟩)) := by rw [hbl.cell (p := ⟨c2, 0, none⟩) (by show c2 < _; omega)]; exact d2
  have e1 : W.cell? ⟨c1, 0, none⟩ = some (.pointer (some ⟨br, 0, none⟩)) := by rw [hbl.cell (p := ⟨c1, 0, none⟩) (by show c1 < _; omega)]; exact d1'
  have e3 : W.cell? ⟨bp, 0, none⟩ = some (.int .i64 p.kind) := HP2.out.cell 0
  have HNB := hide hnb
  have hsW := hbl.size
  have HW2 : Hid (Kt B br bp 56 w W) := Kt.of_kx (Kx.trans (Kx.of_one HK1.out) (Kx.of_below hbl)) hB1 hB2 hB
  have hltW : w1.heap.size < W.heap.size := (Array.getElem?_eq_some_iff.1 hnb).1
  clear hbl hnb d2 d1' d3 hrow1 HR1 HP1
  obtain ⟨i0, hi, hz0, hz1, hz2⟩ := info_parts (show (Tryz.prog.info? 56).map (fun i => (i.zero, i.size, i.bytes)) = some (some (.agg #[.string ⟨#[]⟩, .int .i64 0]), 2, 24) by kernel_rfl)
  by_cases h8 : p.kind = 8
  · have h8' : (p.kind == 8) = true := by simp [h8]
    obtain ⟨Q, hQ⟩ : ∃ Q, Q = (getR s (rtAt s n) (1 : Nat)).1 := ⟨_, rfl⟩
    have HQ : Hid (a1 s p.kind n = ((gtR s n).1, Q)) := by show _ = _; unfold a1; rw [if_pos h8, hQ]
    have HAT : Hid (a1At s p.kind n = rnAt s (rtAt s n) 1) := if_pos h8
    have HBA : Hid (a1Bad s p.kind n bad = rnBad s (rtAt s n) 1 (rtBad s n bad)) := if_pos h8
    have HQ0 := hide hQ
    clear h8 hQ
    go_wp2_with fail
    refine (rnumber_any br s (rtAt s n) 1 (rtBad s n bad) _ HS.out hn1 HR2.out).mono ?_
    rintro e w2 ⟨rfl, hr2, hk2⟩
    rw [← HQ0.out]
    have hab : w1.heap.size ≠ br := by omega
    have hnb2 : w2.heap[w1.heap.size]? = some (.cells #[.string (gtR s n).1, .int .i64 0] 56 (0, 0)) := (hk2.block _ hltW hab hab).trans HNB.out
    have g0 : w2.cell? ⟨w1.heap.size, 0, none⟩ = some (.string (gtR s n).1) := by rw [Lib.cell_of_heap hnb2]; rfl
    have g1 : w2.cell? ⟨w1.heap.size, 1, none⟩ = some (.int .i64 0) := by rw [Lib.cell_of_heap hnb2]; rfl
    have gf : w2.frozen? ⟨w1.heap.size, 1, none⟩ = false := Lib.frozen_of_heap hnb2 1
    have hs2 := hk2.size
    go_upto_region 3 with fail
    have HR3 : Hid (Rd br s (a1At s p.kind n) (a1Bad s p.kind n bad) (w2.setCell ⟨w1.heap.size, 1, none⟩ (.int .i64 Q))) := by
      rw [HAT.out, HBA.out]; show _ = _; rw [Below.heap_setCell _ _ _ _ (by show br ≠ w1.heap.size; omega)]; exact hr2
    have HP3 : Hid (PAt bp p (.slice ao l.length cap) vc (w2.setCell ⟨w1.heap.size, 1, none⟩ (.int .i64 Q))) := by
      have := HP2.out.kx hk2 hne; unfold PAt at *; show _ = _; rw [Below.heap_setCell _ _ _ _ (by show bp ≠ w1.heap.size; omega)]; exact this
    have HO3 : Hid ((w2.setCell ⟨w1.heap.size, 1, none⟩ (.int .i64 Q)).ownsRow B 56 2 (.slice ao l.length cap) l.length (askCells l)) := own_kept HO2.out fun g hg => by
      have hlt := (own_lt HO.out g hg).2
      have hgb : g ≠ br := fun e => own_ne HO.out HR.out (by decide) (by rw [hg, e])
      rw [Below.heap_setCell _ _ _ _ (by show g ≠ w1.heap.size; omega)]
      exact hk2.block g (by omega) hgb hgb
    have HNB3 : Hid ((w2.setCell ⟨w1.heap.size, 1, none⟩ (.int .i64 Q)).heap[w1.heap.size]? = some (.cells #[.string (gtR s n).1, .int .i64 Q] 56 (0, 0))) := by
      show _ = _; simp [World.setCell, Array.getElem?_modify, hnb2]
    have e2' : (w2.setCell ⟨w1.heap.size, 1, none⟩ (.int .i64 Q)).cell? ⟨c2, 0, none⟩ = some (.pointer (some ⟨bp, 0, none⟩)) := by
      rw [World.cell?_setCell_other _ _ _ _ (by first | (simp; done) | (simp; omega)), hk2.cell (p := ⟨c2, 0, none⟩) (by show c2 < _; omega) hc2n hc2n]; exact e2
    have HK3 : Hid (Kt B br bp 56 w (w2.setCell ⟨w1.heap.size, 1, none⟩ (.int .i64 Q))) := by
      refine HW2.out.trans ((Kt.of_kx (Kx.of_one hk2) hB1 hB2 (by omega)).trans ⟨rfl, rfl, rfl, by simp [World.setCell], fun k hk => Below.heap_setCell _ _ _ _ (by show k ≠ w1.heap.size; omega), fun k o hk _ _ hu => ?_⟩)
      rw [Below.heap_setCell _ _ _ _ (fun e => ?_)]
      · exact hk
      · simp only at e
        subst e
        rw [hnb2] at hk
        exact hu _ _ (Option.some.inj hk).symm
    have hXb : w1.heap.size < (w2.setCell ⟨w1.heap.size, 1, none⟩ (.int .i64 Q)).heap.size := by simp [World.setCell]; omega
    clear e1 e2 e3 g0 g1 gf hnb2 hr2 hk2 HR2 HP2 HO2 HNB HW2 HK1 HAT HBA HQ0 hs2
    revert HR3 HP3 HO3 HNB3 e2' HK3 hXb
    generalize w2.setCell ⟨w1.heap.size, 1, none⟩ (.int .i64 Q) = W3
    intro HR3 HP3 HO3 HNB3 e2' HK3 hXb
    have hbp3 := HP3.out.lt
    have hbr3 := HR3.out.lt
    have hB3 : B ≤ W3.heap.size := by omega
    have hc23 : c2 < W3.heap.size := by omega
    have e12 : W3.cell? ⟨bp, 12, none⟩ = some (.slice ao l.length cap) := HP3.out.cell 12
    have f12 : W3.frozen? ⟨bp, 12, none⟩ = false := HP3.out.frozen 12
    have a0 : W3.cell? ⟨w1.heap.size, 0, none⟩ = some (.string (gtR s n).1) := by rw [Lib.cell_of_heap HNB3.out]; rfl
    have a1c : W3.cell? ⟨w1.heap.size, 1, none⟩ = some (.int .i64 Q) := by rw [Lib.cell_of_heap HNB3.out]; rfl
    by_cases h5 : l.length ≤ 5
    · have h5' : (l.length : Int) ≤ 5 := by omega
      have HAD : Hid (addTo l (a1 s p.kind n) = l ++ [((gtR s n).1, Q)]) := by show _ = _; unfold addTo; rw [if_pos h5, HQ.out]
      have H63 : Hid (l.length + 1 ≤ maxLen) := by show _ ≤ _; unfold maxLen; omega
      have H47 : Hid ((l.length + 1) * 24 ≤ 140737488355328) := by show _ ≤ _; omega
      have HNP : Hid ((Value.slice ao l.length cap).ownBlock ≠ some bp) := own_ne HO3.out HP3.out (by decide)
      have HNR : Hid ((Value.slice ao l.length cap).ownBlock ≠ some br) := own_ne HO3.out HR3.out (by decide)
      have HNC : Hid ((Value.slice ao l.length cap).ownBlock ≠ some c2) := own_ne HO.out HC2.out (by decide)
      have HC12 : Hid ((W3.drew.alloc (.cells #[.string (gtR s n).1, .int .i64 Q] 56)).cell? ⟨bp, 12, none⟩ = some (.slice ao l.length cap)) := (World.cell?_alloc_old _ _ _ (by show bp ≠ W3.heap.size; omega)).trans e12
      have HF12 : Hid ((W3.drew.alloc (.cells #[.string (gtR s n).1, .int .i64 Q] 56)).frozen? ⟨bp, 12, none⟩ = false) := (World.frozen?_alloc_old _ _ _ (by show bp ≠ W3.heap.size; omega)).trans f12
      have HC20 : Hid ((W3.drew.alloc (.cells #[.string (gtR s n).1, .int .i64 Q] 56)).cell? ⟨c2, 0, none⟩ = some (.pointer (some ⟨bp, 0, none⟩))) := (World.cell?_alloc_old _ _ _ (by show c2 ≠ W3.heap.size; omega)).trans e2'
      go_wp2_with fail
      go_region_law (refine step_append_lies _ rfl (.tmp 24) (.tmp 26) 32 rfl B 56 i0 (.agg #[.string ⟨#[]⟩, .int .i64 0]) 2 24 Tryz.underlying32 hi hz0 hz1 hz2 rfl (by decide) (.slice ao l.length cap) l.length (askCells l) (by simp [Act.eval]) (World.ownsRow.alloc (w := W3.drew) HO3.out _) ⟨W3.heap.size, 0, none⟩ 1 1 [.string (gtR s n).1, .int .i64 Q] (by simp [Act.eval]) rfl (World.news_of_block (w := W3.drew.alloc _) (B := W3.heap.size) (Go.heap_alloc_new W3.drew _)) (by simp [Value.oneCell']) (by decide) H63.out H47.out (by simp; omega) (W3.heap.size + 1) (by simp) ?_; intro g cap' w4 hown4 hgrow4 hat4 hlt4; have k1 : w4.cell? ⟨bp, 12, none⟩ = some (.slice ao l.length cap) := (hgrow4.cell_far ⟨bp, 12, none⟩ (by simp; omega) (fun e => HNP.out e.symm)).trans HC12.out; have k2 : w4.frozen? ⟨bp, 12, none⟩ = false := (hgrow4.frozen_far ⟨bp, 12, none⟩ (by simp; omega) (fun e => HNP.out e.symm)).trans HF12.out; have k3 : w4.cell? ⟨c2, 0, none⟩ = some (.pointer (some ⟨bp, 0, none⟩)) := (hgrow4.cell_far ⟨c2, 0, none⟩ (by simp; omega) (fun e => HNC.out e.symm)).trans HC20.out)
      all_goals
        go_wp2
        go_end0
        have hgp : g ≠ bp := by
          rcases hat4 with hat4 | hat4
          · intro e; subst e; exact HNP.out hat4
          · omega
        refine ⟨rfl, .slice (some ⟨g, 0, none⟩) (l.length + 1) cap', ?_, ?_, ?_, ?_⟩
        · show _ = _
          rw [Below.heap_setCell _ _ _ _ (fun e => hne e.symm), grow_block hgrow4 hbr3 HNR.out]
          exact HR3.out
        · refine PAt.set12 (va := .slice ao l.length cap) ?_ _
          show _ = _
          rw [grow_block hgrow4 hbp3 HNP.out]
          exact HP3.out
        · rw [HAD.out, askCells_append, List.length_append]
          exact own_kept hown4 fun k hk => Below.heap_setCell _ _ _ _ (by simp only [Value.ownBlock, Option.some.injEq] at hk; subst hk; exact hgp)
        · exact (HK3.out.trans (grow_kt hgrow4 HO3.out hB3)).trans (Kt.of_kx (Kx.set2 _ _ _ _ _) hB1 hB2 (by have := hgrow4.size; simp at this; omega))
    · have h5' : decide ((l.length : Int) ≤ 5) = false := by simp; omega
      have HAD : Hid (addTo l (a1 s p.kind n) = l) := by show _ = _; unfold addTo; rw [if_neg h5]
      go_wp2
      go_end0
      exact ⟨rfl, _, HR3.out, HP3.out, by rw [HAD.out]; exact HO3.out, HK3.out⟩
  · have h8' : (p.kind == 8) = false := by simp [h8]
    obtain ⟨Q, hQ⟩ : ∃ Q : Int, Q = 0 := ⟨_, rfl⟩
    have HQ : Hid (a1 s p.kind n = ((gtR s n).1, Q)) := by show _ = _; unfold a1; rw [if_neg h8, hQ]
    have HAT : Hid (a1At s p.kind n = rtAt s n) := if_neg h8
    have HBA : Hid (a1Bad s p.kind n bad = rtBad s n bad) := if_neg h8
    have HR3 : Hid (Rd br s (a1At s p.kind n) (a1Bad s p.kind n bad) W) := by rw [HAT.out, HBA.out]; exact HR2
    have HNB3 : Hid (W.heap[w1.heap.size]? = some (.cells #[.string (gtR s n).1, .int .i64 Q] 56 (0, 0))) := by rw [hQ]; exact HNB
    have HP3 := HP2
    have HO3 := HO2
    have HK3 := HW2
    have hXb := hltW
    clear h8 hQ HR2 HP2 HO2 HW2 HNB HK1 HAT HBA hltW e1
    have hbp3 := HP3.out.lt
    have hbr3 := HR3.out.lt
    have hB3 : B ≤ W.heap.size := by omega
    have hc23 : c2 < W.heap.size := by omega
    have e12 : W.cell? ⟨bp, 12, none⟩ = some (.slice ao l.length cap) := HP3.out.cell 12
    have f12 : W.frozen? ⟨bp, 12, none⟩ = false := HP3.out.frozen 12
    have a0 : W.cell? ⟨w1.heap.size, 0, none⟩ = some (.string (gtR s n).1) := by rw [Lib.cell_of_heap HNB3.out]; rfl
    have a1c : W.cell? ⟨w1.heap.size, 1, none⟩ = some (.int .i64 Q) := by rw [Lib.cell_of_heap HNB3.out]; rfl
    by_cases h5 : l.length ≤ 5
    · have h5' : (l.length : Int) ≤ 5 := by omega
      have HAD : Hid (addTo l (a1 s p.kind n) = l ++ [((gtR s n).1, Q)]) := by show _ = _; unfold addTo; rw [if_pos h5, HQ.out]
      have H63 : Hid (l.length + 1 ≤ maxLen) := by show _ ≤ _; unfold maxLen; omega
      have H47 : Hid ((l.length + 1) * 24 ≤ 140737488355328) := by show _ ≤ _; omega
      have HNP : Hid ((Value.slice ao l.length cap).ownBlock ≠ some bp) := own_ne HO3.out HP3.out (by decide)
      have HNR : Hid ((Value.slice ao l.length cap).ownBlock ≠ some br) := own_ne HO3.out HR3.out (by decide)
      have HNC : Hid ((Value.slice ao l.length cap).ownBlock ≠ some c2) := own_ne HO.out HC2.out (by decide)
      have HC12 : Hid ((W.drew.alloc (.cells #[.string (gtR s n).1, .int .i64 Q] 56)).cell? ⟨bp, 12, none⟩ = some (.slice ao l.length cap)) := (World.cell?_alloc_old _ _ _ (by show bp ≠ W.heap.size; omega)).trans e12
      have HF12 : Hid ((W.drew.alloc (.cells #[.string (gtR s n).1, .int .i64 Q] 56)).frozen? ⟨bp, 12, none⟩ = false) := (World.frozen?_alloc_old _ _ _ (by show bp ≠ W.heap.size; omega)).trans f12
      have HC20 : Hid ((W.drew.alloc (.cells #[.string (gtR s n).1, .int .i64 Q] 56)).cell? ⟨c2, 0, none⟩ = some (.pointer (some ⟨bp, 0, none⟩))) := (World.cell?_alloc_old _ _ _ (by show c2 ≠ W.heap.size; omega)).trans e2
      go_wp2_with fail
      go_region_law (refine step_append_lies _ rfl (.tmp 24) (.tmp 26) 32 rfl B 56 i0 (.agg #[.string ⟨#[]⟩, .int .i64 0]) 2 24 Tryz.underlying32 hi hz0 hz1 hz2 rfl (by decide) (.slice ao l.length cap) l.length (askCells l) (by simp [Act.eval]) (World.ownsRow.alloc (w := W.drew) HO3.out _) ⟨W.heap.size, 0, none⟩ 1 1 [.string (gtR s n).1, .int .i64 Q] (by simp [Act.eval]) rfl (World.news_of_block (w := W.drew.alloc _) (B := W.heap.size) (Go.heap_alloc_new W.drew _)) (by simp [Value.oneCell']) (by decide) H63.out H47.out (by simp; omega) (W.heap.size + 1) (by simp) ?_; intro g cap' w4 hown4 hgrow4 hat4 hlt4; have k1 : w4.cell? ⟨bp, 12, none⟩ = some (.slice ao l.length cap) := (hgrow4.cell_far ⟨bp, 12, none⟩ (by simp; omega) (fun e => HNP.out e.symm)).trans HC12.out; have k2 : w4.frozen? ⟨bp, 12, none⟩ = false := (hgrow4.frozen_far ⟨bp, 12, none⟩ (by simp; omega) (fun e => HNP.out e.symm)).trans HF12.out; have k3 : w4.cell? ⟨c2, 0, none⟩ = some (.pointer (some ⟨bp, 0, none⟩)) := (hgrow4.cell_far ⟨c2, 0, none⟩ (by simp; omega) (fun e => HNC.out e.symm)).trans HC20.out)
      all_goals
        go_wp2
        go_end0
        have hgp : g ≠ bp := by
          rcases hat4 with hat4 | hat4
          · intro e; subst e; exact HNP.out hat4
          · omega
        refine ⟨rfl, .slice (some ⟨g, 0, none⟩) (l.length + 1) cap', ?_, ?_, ?_, ?_⟩
        · show _ = _
          rw [Below.heap_setCell _ _ _ _ (fun e => hne e.symm), grow_block hgrow4 hbr3 HNR.out]
          exact HR3.out
        · refine PAt.set12 (va := .slice ao l.length cap) ?_ _
          show _ = _
          rw [grow_block hgrow4 hbp3 HNP.out]
          exact HP3.out
        · rw [HAD.out, askCells_append, List.length_append]
          exact own_kept hown4 fun k hk => Below.heap_setCell _ _ _ _ (by simp only [Value.ownBlock, Option.some.injEq] at hk; subst hk; exact hgp)
        · exact (HK3.out.trans (grow_kt hgrow4 HO3.out hB3)).trans (Kt.of_kx (Kx.set2 _ _ _ _ _) hB1 hB2 (by have := hgrow4.size; simp at this; omega))
    · have h5' : decide ((l.length : Int) ≤ 5) = false := by simp; omega
      have HAD : Hid (addTo l (a1 s p.kind n) = l) := by show _ = _; unfold addTo; rw [if_neg h5]
      go_wp2
      go_end0
      exact ⟨rfl, _, HR3.out, HP3.out, by rw [HAD.out]; exact HO3.out, HK3.out⟩
end Go.Proofs.YtnjdpibgfbbkcabGreatDoor
