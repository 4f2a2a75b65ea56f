/-
  session.sender's send and sendFlight: what they leave.
-/
import Derived.Test.YtnhcecgmcmcioaaDoorSesSender
import Derived.Deep.RegionLaw
namespace Go.Proofs.YtnhcecgmcmcioaaDoor
open Go.RowKit Go.PlainAid

/-- a packet's box that is sent -/
structure Sb (N b : Nat) (s : Se) (va : Value) (ab : Option Addr) (cb : Nat) (vs : Value) (L : List Pk) (w : World) (c : Nat) (p : Pk) (W : World) : Prop where
  sd : Sd N b s va ab cb vs L w W
  at9 : W.heap[c]? = some (.cells (spC p).toArray 57 (0, 0))
  ne : vs.ownBlock ≠ some c
  ge : N ≤ c
theorem Sb.step {N b : Nat} {s : Se} {va : Value} {ab : Option Addr} {cb : Nat} {vs : Value} {L : List Pk} {w : World} {c : Nat} {p : Pk} {W W' : World} (h : Sb N b s va ab cb vs L w c p W) (hb : Below W.heap.size W W') : Sb N b s va ab cb vs L w c p W' :=
  ⟨h.sd.step hb, (hb.block _ (Array.getElem?_eq_some_iff.1 h.at9).1).trans h.at9, h.ne, h.ge⟩
theorem Sb.drew {N b : Nat} {s : Se} {va : Value} {ab : Option Addr} {cb : Nat} {vs : Value} {L : List Pk} {w : World} {c : Nat} {p : Pk} {W : World} (h : Sb N b s va ab cb vs L w c p W) : Sb N b s va ab cb vs L w c p W.drew := h.step (Below.drew (Below.refl _ _))
theorem Sb.cell {N b : Nat} {s : Se} {va : Value} {ab : Option Addr} {cb : Nat} {vs : Value} {L : List Pk} {w : World} {c : Nat} {p : Pk} {W : World} (h : Sb N b s va ab cb vs L w c p W) (o : Nat) : W.cell? ⟨c, o, none⟩ = (spC p).toArray[o]? := Lib.cell_of_heap h.at9 o
theorem Sb.frozen {N b : Nat} {s : Se} {va : Value} {ab : Option Addr} {cb : Nat} {vs : Value} {L : List Pk} {w : World} {c : Nat} {p : Pk} {W : World} (h : Sb N b s va ab cb vs L w c p W) (o : Nat) : W.frozen? ⟨c, o, none⟩ = false := Lib.frozen_of_heap h.at9 o
/-- a store into the box -/
theorem Sb.put {N b : Nat} {s : Se} {va : Value} {ab : Option Addr} {cb : Nat} {vs : Value} {L : List Pk} {w : World} {c : Nat} {p q : Pk} {W : World} (h : Sb N b s va ab cb vs L w c p W) (o : Nat) (x : Value) (hq : (W.setCell ⟨c, o, none⟩ x).heap[c]? = some (.cells (spC q).toArray 57 (0, 0))) : Sb N b s va ab cb vs L w c q (W.setCell ⟨c, o, none⟩ x) := by
  have hne : b ≠ c := fun e => by
    have h1 := h.sd.box; have h2 := h.at9
    unfold NAt at h1
    rw [e, h2] at h1
    simp only [Option.some.injEq, Obj.cells.injEq] at h1
    exact absurd h1.2.1 (by decide)
  refine ⟨⟨?_, kown_kept h.sd.fl fun g hg => Below.heap_setCell _ _ _ _ (fun e => kown_ne h.sd.fl h.at9 (by decide) (by rw [hg]; exact congrArg some e)), h.sd.qu.keep fun g cur _ hn hg => ⟨Below.heap_setCell _ _ _ _ (fun e => ?_), hn⟩, kown_kept h.sd.sent fun g hg => Below.heap_setCell _ _ _ _ (fun e => h.ne (by rw [hg]; exact congrArg some e)), h.sd.bel.setCell h.ge _, h.sd.le, h.sd.ge⟩, hq, h.ne, h.ge⟩
  · have := h.sd.box; unfold NAt at *; rw [Below.heap_setCell _ _ _ _ hne]; exact this
  · have e' : g = c := e
    subst e'
    rw [h.at9] at hg
    simp only [Option.some.injEq, Obj.cells.injEq] at hg
    exact absurd hg.2.1 (by decide)
theorem Sb.kind {N b : Nat} {s : Se} {va : Value} {ab : Option Addr} {cb : Nat} {vs : Value} {L : List Pk} {w : World} {c : Nat} {p : Pk} {W : World} (h : Sb N b s va ab cb vs L w c p W) (k : Int) : Sb N b s va ab cb vs L w c { p with kind := k } (W.setCell ⟨c, 0, none⟩ (.int .i64 k)) :=
  h.put 0 _ (by have := h.at9; simp [World.setCell, Array.getElem?_modify, this, spC])
theorem Sb.topic {N b : Nat} {s : Se} {va : Value} {ab : Option Addr} {cb : Nat} {vs : Value} {L : List Pk} {w : World} {c : Nat} {p : Pk} {W : World} (h : Sb N b s va ab cb vs L w c p W) : Sb N b s va ab cb vs L w c p (W.setCell ⟨c, 10, none⟩ (.string p.topic)) :=
  h.put 10 _ (by have := h.at9; simp [World.setCell, Array.getElem?_modify, this, spC])
theorem Sb.load {N b : Nat} {s : Se} {va : Value} {ab : Option Addr} {cb : Nat} {vs : Value} {L : List Pk} {w : World} {c : Nat} {p : Pk} {W : World} (h : Sb N b s va ab cb vs L w c p W) : Sb N b s va ab cb vs L w c p (W.setCell ⟨c, 11, none⟩ (.string p.payload)) :=
  h.put 11 _ (by have := h.at9; simp [World.setCell, Array.getElem?_modify, this, spC])
theorem tl_keep1 {W : World} {b : Nat} {y z : Value} (h1 : W.cell? ⟨b, 10, none⟩ = some y) (h2 : W.cell? ⟨b, 11, none⟩ = some z) :
    (W.setCell ⟨b, 10, none⟩ y).cell? ⟨b, 10, none⟩ = some y ∧ (W.setCell ⟨b, 10, none⟩ y).cell? ⟨b, 11, none⟩ = some z :=
  ⟨World.cell?_setCell_same _ _ _ h1, (World.cell?_setCell_other _ _ _ _ (by simp)).trans h2⟩
theorem tl_keep2 {W : World} {b : Nat} {y z : Value} (h1 : W.cell? ⟨b, 10, none⟩ = some y) (h2 : W.cell? ⟨b, 11, none⟩ = some z) :
    (W.setCell ⟨b, 11, none⟩ z).cell? ⟨b, 10, none⟩ = some y ∧ (W.setCell ⟨b, 11, none⟩ z).cell? ⟨b, 11, none⟩ = some z :=
  ⟨(World.cell?_setCell_other _ _ _ _ (by simp)).trans h1, World.cell?_setCell_same _ _ _ h2⟩
theorem tl_keep12 {W : World} {b : Nat} {y z : Value} (h1 : W.cell? ⟨b, 10, none⟩ = some y) (h2 : W.cell? ⟨b, 11, none⟩ = some z) :
    ((W.setCell ⟨b, 10, none⟩ y).setCell ⟨b, 11, none⟩ z).cell? ⟨b, 10, none⟩ = some y ∧ ((W.setCell ⟨b, 10, none⟩ y).setCell ⟨b, 11, none⟩ z).cell? ⟨b, 11, none⟩ = some z := tl_keep2 (tl_keep1 h1 h2).1 (tl_keep1 h1 h2).2
theorem tl_keep21 {W : World} {b : Nat} {y z : Value} (h1 : W.cell? ⟨b, 10, none⟩ = some y) (h2 : W.cell? ⟨b, 11, none⟩ = some z) :
    ((W.setCell ⟨b, 11, none⟩ z).setCell ⟨b, 10, none⟩ y).cell? ⟨b, 10, none⟩ = some y ∧ ((W.setCell ⟨b, 11, none⟩ z).setCell ⟨b, 10, none⟩ y).cell? ⟨b, 11, none⟩ = some z := tl_keep1 (tl_keep2 h1 h2).1 (tl_keep2 h1 h2).2

set_option maxHeartbeats 4000000 in
set_option maxRecDepth 100000 in
theorem ssend_any (N b : Nat) (s : Se) (va : Value) (ab : Option Addr) (cb : Nat) (ao : Option Addr) (cs : Nat) (L : List Pk) (w W : World) (p : Pk) (hs : Sd N b s va ab cb (.slice ao L.length cs) L w W) (hL : L.length ≤ 1048576) (h1 : p.topic.size ≤ 281474976710656) (h2 : p.payload.size ≤ 281474976710656) :
    Calls Tryd.prog 23 #[.pointer (some ⟨b, 0, none⟩), .agg (spC p).toArray] W fun e W' => e = .returned (.tuple #[]) ∧ ∃ a' c', Sd N b s va ab cb (.slice a' (L.length + 1) c') (L ++ [{ p with kind := 3 }]) w W' := by
  have CT := hide (fun V => kclone_any p.topic V h1)
  have CP := hide (fun V => kclone_any p.payload V h2)
  have HW : Hid (Sb N b s va ab cb (.slice ao L.length cs) L w W.heap.size { p with kind := 3 } (W.alloc (.cells #[.int .i64 3, .bool p.dup, .bool p.retain, .bool p.clean, .bool p.session, .int .i64 p.qos, .int .i64 p.id, .int .i64 p.keep, .int .i64 p.code, .string p.client, .string p.topic, .string p.payload, .slice none 0 0, .slice none 0 0] 57))) := ⟨hs.alloc _, Go.heap_alloc_new W _, fun e => by have := kown_lt hs.sent e; omega, by have := hs.le; have := hs.box.lt; omega⟩
  have hb : b < W.heap.size := hs.box.lt
  clear hs h1 h2
  simp only [spC]
  go_enter Tryd.func23, Tryd.ntmps23
  go_upto_region 2 with fail
  revert HW
  generalize W.alloc (.cells #[.int .i64 3, .bool p.dup, .bool p.retain, .bool p.clean, .bool p.session, .int .i64 p.qos, .int .i64 p.id, .int .i64 p.keep, .int .i64 p.code, .string p.client, .string p.topic, .string p.payload, .slice none 0 0, .slice none 0 0] 57) = V
  generalize W.heap.size = c at *
  intro HW
  have q10 : V.cell? ⟨c, 10, none⟩ = some (.string p.topic) := HW.out.cell 10
  have q11 : V.cell? ⟨c, 11, none⟩ = some (.string p.payload) := HW.out.cell 11
  go_region_held3 (fun w' => w'.cell? ⟨c, 10, none⟩ = some (.string p.topic) ∧ w'.cell? ⟨c, 11, none⟩ = some (.string p.payload)) (first
      | (refine ⟨?_, ?_⟩ <;> assumption)
      | (refine tl_keep1 ?_ ?_ <;> assumption)
      | (refine tl_keep2 ?_ ?_ <;> assumption)
      | (refine tl_keep12 ?_ ?_ <;> assumption)
      | (refine tl_keep21 ?_ ?_ <;> assumption)
      | go_keep
      | fail)
    (first
      | (go_at_call 49; refine (CT.out _).mono ?_; rintro e wa ⟨rfl, hba⟩; have IA := (by first | exact HW.out.drew.step hba | exact IB.step hba); have j10 : wa.cell? ⟨c, 10, none⟩ = some (.string p.topic) := IA.cell 10; have j11 : wa.cell? ⟨c, 11, none⟩ = some (.string p.payload) := IA.cell 11; have jf := IA.frozen)
      | (go_at_call 49; refine (CP.out _).mono ?_; rintro e wb ⟨rfl, hbb⟩; have IB := (by first | exact HW.out.drew.step hbb | exact IA.step hbb); have i10 : wb.cell? ⟨c, 10, none⟩ = some (.string p.topic) := IB.cell 10; have i11 : wb.cell? ⟨c, 11, none⟩ = some (.string p.payload) := IB.cell 11; have iif := IB.frozen)
      | fail)
  all_goals
    have HX : Hid (Sb N b s va ab cb (.slice ao L.length cs) L w c { p with kind := 3 } ((wb.setCell ⟨c, 10, none⟩ (.string p.topic)).setCell ⟨c, 11, none⟩ (.string p.payload))) := IB.topic.load
    revert HX
    generalize (wb.setCell ⟨c, 10, none⟩ (.string p.topic)).setCell ⟨c, 11, none⟩ (.string p.payload) = X
    intro HX
    clear IA IB HW q10 q11 j10 j11 i10 i11 jf iif hba hbb CT CP
    have x6 : X.cell? ⟨b, 6, none⟩ = some (.slice ao L.length cs) := HX.out.sd.box.cell 6
    have f6 : X.frozen? ⟨b, 6, none⟩ = false := HX.out.sd.box.frozen 6
    have y1 := HX.out.cell
    simp only [spC] at y1
    have xa6 : (X.alloc (.cells #[.int .i64 3, .bool p.dup, .bool p.retain, .bool p.clean, .bool p.session, .int .i64 p.qos, .int .i64 p.id, .int .i64 p.keep, .int .i64 p.code, .string p.client, .string p.topic, .string p.payload, .slice none 0 0, .slice none 0 0] 57)).cell? ⟨b, 6, none⟩ = some (.slice ao L.length cs) := (HX.out.sd.alloc _).box.cell 6
    go_upto_region 3 with fail
    go_region_law (refine stepSent (by rfl) _ _ (by rfl) (by rfl) _ (by rfl) ((HX.out.sd.drew).alloc _) { p with kind := 3 } (by exact Go.heap_alloc_new _ _) hL ?_; intro g cap W' hown hgrow; have k6 : W'.cell? ⟨b, 6, none⟩ = some (.slice ao L.length cs) := (((HX.out.sd.drew).alloc _).sentMore hgrow).1.cell 6; have kf6 : W'.frozen? ⟨b, 6, none⟩ = false := (((HX.out.sd.drew).alloc _).sentMore hgrow).1.frozen 6)
    all_goals
      have HN := hide (((HX.out.sd.drew).alloc _).sentPut hgrow hown)
      clear hown hgrow HX
      go_wp2
      go_end0
      exact ⟨rfl, some ⟨g, 0, none⟩, cap, HN.out⟩
end Go.Proofs.YtnhcecgmcmcioaaDoor
