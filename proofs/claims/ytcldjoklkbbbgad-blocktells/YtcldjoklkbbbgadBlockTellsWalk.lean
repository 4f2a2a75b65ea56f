/-
  BlockTells: the walk through the law, by the contracts of what it calls.
-/
import Derived.Test.YtcldjoklkbbbgadBlkJoinOf
namespace Go.Proofs.Ytcldjoklkbbbgad
open Go.RowKit Go.PlainAid

theorem limN_le (n : Int) : limN n ≤ 1000 := by unfold limN; split <;> omega

set_option maxHeartbeats 4000000 in
set_option maxRecDepth 100000 in
theorem blockTells_walk (p : ByteArray) (n s : Int) (ps : List ByteArray) (l : List Bk) (ap ao : Option Addr) (cp co : Nat) (w : World) (hp : StrsIn w ap ps) (hl : BksIn w ao l) (hn : l.length ≤ 140737488355328) (hnp : ps.length ≤ 140737488355328) (hpm : ∀ s ∈ ps, s.size ≤ 9223372036854775807) :
    Calls Try.prog 4 #[.string p, .int .i64 n, .int .i64 s, .slice ap ps.length cp, .slice ao l.length co] w fun e w' => e = .returned (.bool true) ∧ Below w.heap.size w w' := by
  have C1 : Hid (∀ W, Calls Try.prog 8 #[.string p, .int .i64 n, .int .i64 s] W fun e w' => e = .returned (.tuple #[.string (cutAS p n s), .agg #[.int .i64 (cutAB p n s).num, .bool (cutAB p n s).more, .int .i64 (cutAB p n s).size], .int .i64 (cutE p n s)]) ∧ Below W.heap.size W w') := fun W => cut_any p n s W
  have C2 : Hid (∀ W, Below w.heap.size w W → Calls Try.prog 9 #[.slice ap ps.length cp, .slice ao l.length co] W fun e w' => e = .returned (.tuple #[.string (joinS ps l), .int .i64 (joinE ps l)]) ∧ Below W.heap.size W w') := fun W h => join_any ps l ap ao cp co W (hp.below h) (hl.below h) (by omega) (by omega) hpm
  have C3 := hide (fun W => limited_any n W)
  have C4 : Hid (∀ W, Calls Try.prog 10 #[.string p, .int .i64 (limN n), .int .i64 s] W fun e w' => e = .returned (.tuple #[.string (cutAS p n s), .agg #[.int .i64 (cutAB p n s).num, .bool (cutAB p n s).more, .int .i64 (cutAB p n s).size], .int .i64 (cutE p n s)]) ∧ Below W.heap.size W w') := fun W => by
    have := cutOf_any p (limN n) s W (limN_le n)
    rw [(cut_lim p n s).1, (cut_lim p n s).2, cutE_lim] at this
    exact this
  have C5 : Hid (∀ W, Below w.heap.size w W → Calls Try.prog 12 #[.slice ap ps.length cp, .slice ao l.length co] W fun e w' => e = .returned (.tuple #[.string (joinS ps l), .int .i64 (joinE ps l)]) ∧ Below W.heap.size W w') := fun W h => joinOf_any ps l ap ao cp co W (hp.below h) (hl.below h) hn hnp hpm
  clear hp hl hpm hn hnp
  generalize (cutAB p n s).num = bn at *
  generalize (cutAB p n s).more = bm at *
  generalize (cutAB p n s).size = bs at *
  generalize cutAS p n s = cs at *
  generalize cutE p n s = ce at *
  generalize joinS ps l = js at *
  generalize joinE ps l = je at *
  generalize limN n = m at *
  generalize ps.length = pn at *
  generalize l.length = ln at *
  go_enter Try.func4, Try.ntmps4
  go_wp2_with fail
  refine (C1.out _).mono ?_
  rintro e w1 ⟨rfl, hb1⟩
  have HA := hide (hb1.alloc hb1.size (.cells #[.int .i64 bn, .bool bm, .int .i64 bs] 25))
  have d1 := three_cells w1 (.int .i64 bn) (.bool bm) (.int .i64 bs)
  have hz1 : w1.heap.size < (w1.alloc (.cells #[.int .i64 bn, .bool bm, .int .i64 bs] 25)).heap.size := by simp
  clear hb1
  go_wp2_with fail
  refine (C2.out _ HA.out).mono ?_
  rintro e w2 ⟨rfl, hb2⟩
  have HA2 := hide (below_step HA.out hb2)
  have d2 : ∀ o, w2.cell? ⟨w1.heap.size, o, none⟩ = (#[.int .i64 bn, .bool bm, .int .i64 bs] : Array Value)[o]? := fun o => (hb2.cell (p := ⟨w1.heap.size, o, none⟩) hz1).trans (d1 o)
  have hz2 : w1.heap.size < w2.heap.size := Nat.lt_of_lt_of_le hz1 hb2.size
  clear hb2 d1 hz1 HA
  go_wp2_with fail
  refine (C3.out _).mono ?_
  rintro e w2' ⟨rfl, h2⟩
  subst h2
  go_wp2_with fail
  refine (C4.out _).mono ?_
  rintro e w3 ⟨rfl, hb3⟩
  have HA3 := hide (below_step HA2.out hb3)
  have HA4 := hide (HA3.out.alloc HA3.out.size (.cells #[.int .i64 bn, .bool bm, .int .i64 bs] 25))
  have d3 : ∀ o, (w3.alloc (.cells #[.int .i64 bn, .bool bm, .int .i64 bs] 25)).cell? ⟨w1.heap.size, o, none⟩ = (#[.int .i64 bn, .bool bm, .int .i64 bs] : Array Value)[o]? := fun o => (World.cell?_alloc_old _ _ _ (by show w1.heap.size ≠ w3.heap.size; have := hb3.size; omega)).trans ((hb3.cell (p := ⟨w1.heap.size, o, none⟩) hz2).trans (d2 o))
  have d4 := three_cells w3 (.int .i64 bn) (.bool bm) (.int .i64 bs)
  have hz3 : w1.heap.size < (w3.alloc (.cells #[.int .i64 bn, .bool bm, .int .i64 bs] 25)).heap.size := by have := hb3.size; simp; omega
  have hz4 : w3.heap.size < (w3.alloc (.cells #[.int .i64 bn, .bool bm, .int .i64 bs] 25)).heap.size := by simp
  clear hb3 d2 hz2 HA2
  go_wp2_with fail
  refine (C5.out _ HA4.out).mono ?_
  rintro e w4 ⟨rfl, hb4⟩
  have HA5 := hide (below_step HA4.out hb4)
  have e3 : ∀ o, w4.cell? ⟨w1.heap.size, o, none⟩ = (#[.int .i64 bn, .bool bm, .int .i64 bs] : Array Value)[o]? := fun o => (hb4.cell (p := ⟨w1.heap.size, o, none⟩) hz3).trans (d3 o)
  have e4 : ∀ o, w4.cell? ⟨w3.heap.size, o, none⟩ = (#[.int .i64 bn, .bool bm, .int .i64 bs] : Array Value)[o]? := fun o => (hb4.cell (p := ⟨w3.heap.size, o, none⟩) hz4).trans (d4 o)
  have y3 : w1.heap.size < w4.heap.size := Nat.lt_of_lt_of_le hz3 hb4.size
  have y4 : w3.heap.size < w4.heap.size := Nat.lt_of_lt_of_le hz4 hb4.size
  clear hb4 d3 d4 hz3 hz4 HA4 HA3
  go_wp2_with fail
  refine (blockBegun_yes _).mono ?_
  rintro e w5 ⟨rfl, hb5⟩
  have HA6 := hide (below_step HA5.out hb5)
  have f3 : ∀ o, w5.cell? ⟨w1.heap.size, o, none⟩ = (#[.int .i64 bn, .bool bm, .int .i64 bs] : Array Value)[o]? := fun o => (hb5.cell (p := ⟨w1.heap.size, o, none⟩) y3).trans (e3 o)
  have f4 : ∀ o, w5.cell? ⟨w3.heap.size, o, none⟩ = (#[.int .i64 bn, .bool bm, .int .i64 bs] : Array Value)[o]? := fun o => (hb5.cell (p := ⟨w3.heap.size, o, none⟩) y4).trans (e4 o)
  clear hb5 e3 e4 y3 y4 HA5
  go_wp2
  go_ret
  exact ⟨rfl, HA6.out⟩

theorem blockTells_lift {w : World} (p : ByteArray) (n s : Int) (ps : List ByteArray) (ap : Option Addr) (cp : Nat) (hp : StrsIn w ap ps) (hnp : ps.length ≤ 140737488355328) (hpm : ∀ s ∈ ps, s.size ≤ 9223372036854775807) (l : List Bk) (ao : Option Addr) (co : Nat) (hl : BksIn w ao l) (hn : l.length ≤ 140737488355328) :
    Calls Try.prog 4 #[.string p, .int .i64 n, .int .i64 s, .slice ap ps.length cp, .slice ao l.length co] w fun e w' => e = .returned (.bool true) ∧ Below w.heap.size w w' := blockTells_walk p n s ps l ap ao cp co w hp hl hn hnp hpm
end Go.Proofs.Ytcldjoklkbbbgad
