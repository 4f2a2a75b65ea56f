/-
  dragomanlaw.packetBegun answers true.
-/
import Derived.Test.YtnjdpibgfbbkcabGreatDoorPacketBackJoined
import Derived.Test.YtnjdpibgfbbkcabGreatDoorPacketEncode
import Derived.Test.YtnjdpibgfbbkcabGreatDoorSamePacket
import Derived.Deep.RegionWith
namespace Go.Proofs.YtnjdpibgfbbkcabGreatDoor
open Go.RowKit Go.PlainAid

/-- a packet of Qos 1 -/
def pubPk : Pk := ⟨3, false, false, false, false, 1, 10, 0, 0, ⟨#[]⟩, ⟨#[97, 47, 98]⟩, ⟨#[104, 105]⟩, [], []⟩
theorem pub_chk : chkP pubPk = 0 := by decide +kernel
theorem pub_enc : encP pubPk = ⟨#[50, 9, 0, 3, 97, 47, 98, 0, 10, 104, 105]⟩ := by decide +kernel
theorem pub_in (w : World) : PkIn w pubPk none none := ⟨.inl rfl, .inl rfl⟩

set_option maxHeartbeats 2000000 in
theorem pub_any (w : World) : Calls Tryz.prog 15 #[] w fun e w' => e = .returned (pkV pubPk none 0 none 0) ∧ Below w.heap.size w w' := by
  go_enter Tryz.func15, Tryz.ntmps15
  go_wp2
  refine bodyPost_ret (v := pkV pubPk none 0 none 0) (by simp [results, Tryz.results15, go_sem, pkV, pubPk]) rfl ⟨rfl, ?_⟩
  repeat (first | refine Below.setCell ?_ (by first | simp | (simp; omega)) _ | refine Below.alloc ?_ (by first | simp | (simp; omega)) _ | exact Below.refl _ _)

theorem pub_encode (w : World) (hm : Max w) : Calls Tryz.prog 14 #[pkV pubPk none 0 none 0] w fun e w' => e = .returned (.tuple #[.string ⟨#[50, 9, 0, 3, 97, 47, 98, 0, 10, 104, 105]⟩, .int .i64 0]) ∧ Below w.heap.size w w' := by
  have := encode_any pubPk none none 0 0 w hm (pub_in w)
  rwa [show encS pubPk = encP pubPk from if_pos pub_chk, pub_enc, pub_chk] at this
theorem pub_decode (w : World) (hm : Max w) : Calls Tryz.prog 11 #[.string ⟨#[50, 9, 0, 3, 97, 47, 98, 0, 10, 104, 105]⟩] w fun e w' => ∃ aa ca ac cc, e = .returned (.tuple #[pkV pubPk aa ca ac cc, .int .i64 0]) ∧ PkInB w.heap.size w' pubPk aa ac ∧ Below w.heap.size w w' := by
  have := decode_any ⟨#[50, 9, 0, 3, 97, 47, 98, 0, 10, 104, 105]⟩ w (by decide) hm
  have hd := dec_enc pub_chk
  rw [pub_enc] at hd
  rwa [hd.1, hd.2] at this
theorem pub_check (w : World) (hm : Max w) : Calls Tryz.prog 16 #[pkV pubPk none 0 none 0] w fun e w' => e = .returned (.int .i64 0) ∧ Below w.heap.size w w' := by
  have := check_any pubPk none none 0 0 w hm (pub_in w)
  rwa [pub_chk] at this
theorem pub_same (aa ac : Option Addr) (ca cc : Nat) (w : World) : Calls Tryz.prog 17 #[pkV pubPk aa ca ac cc, pkV pubPk none 0 none 0] w fun e w' => e = .returned (.bool true) ∧ Below w.heap.size w w' :=
  same_yes pubPk aa ac none none ca cc 0 0 w ⟨.inl rfl, .inl rfl⟩ (pub_in w) (by decide) (by decide)

theorem pat_below {b : Nat} {p : Pk} {va vc : Value} {w w' : World} (h : PAt b p va vc w) (hb : Below w.heap.size w w') : PAt b p va vc w' := by
  have := h.lt; unfold PAt at *; rw [hb.block b this]; exact h

set_option maxHeartbeats 4000000 in
set_option maxRecDepth 100000 in
theorem packetBegun_yes (w : World) (hm : Max w) : Calls Tryz.prog 6 #[] w fun e w' => e = .returned (.bool true) ∧ Below w.heap.size w w' := by
  have hm := hide hm
  have P1 := hide pub_any
  have P2 := hide pub_encode
  have P3 := hide pub_decode
  have P4 := hide pub_check
  have P5 := hide pub_same
  simp only [pkV, pubPk, List.length_nil] at P1 P2 P3 P4 P5
  go_enter Tryz.func6, Tryz.ntmps6
  go_wp2_with fail
  refine (P1.out _).mono ?_
  rintro e w1 ⟨rfl, hb1⟩
  have HM1 := hide (hm.out.below hb1)
  go_wp2_with fail
  refine (P2.out _ HM1.out).mono ?_
  rintro e w2 ⟨rfl, hb2⟩
  have HM2 := hide (HM1.out.below hb2)
  have HB2 := hide (below_step hb1 hb2)
  clear hb1 hb2
  go_wp2_with fail
  refine (P3.out _ HM2.out).mono ?_
  rintro e w3 ⟨aa, ca, ac, cc, rfl, hin, hb3⟩
  have HM3 := hide (HM2.out.below hb3)
  have HB3 := hide (below_step HB2.out hb3)
  clear hin hb3
  go_upto_region 3 with fail
  have HPc : Hid (PAt w3.heap.size pubPk (.slice aa 0 ca) (.slice ac 0 cc) (w3.alloc (.cells #[.int .i64 3, .bool false, .bool false, .bool false, .bool false, .int .i64 1, .int .i64 10, .int .i64 0, .int .i64 0, .string ⟨#[]⟩, .string ⟨#[97, 47, 98]⟩, .string ⟨#[104, 105]⟩, .slice aa 0 ca, .slice ac 0 cc] 35)).drew) := Go.heap_alloc_new w3 _
  have HBc : Hid (Below w.heap.size w (w3.alloc (.cells #[.int .i64 3, .bool false, .bool false, .bool false, .bool false, .int .i64 1, .int .i64 10, .int .i64 0, .int .i64 0, .string ⟨#[]⟩, .string ⟨#[97, 47, 98]⟩, .string ⟨#[104, 105]⟩, .slice aa 0 ca, .slice ac 0 cc] 35)).drew) := Below.drew (HB3.out.alloc (by have := HB3.out.size; omega) _)
  have HMc : Hid (Max (w3.alloc (.cells #[.int .i64 3, .bool false, .bool false, .bool false, .bool false, .int .i64 1, .int .i64 10, .int .i64 0, .int .i64 0, .string ⟨#[]⟩, .string ⟨#[97, 47, 98]⟩, .string ⟨#[104, 105]⟩, .slice aa 0 ca, .slice ac 0 cc] 35)).drew) := HM3.out.alloc _
  have x1 : ∀ o, (w3.alloc (.cells #[.int .i64 3, .bool false, .bool false, .bool false, .bool false, .int .i64 1, .int .i64 10, .int .i64 0, .int .i64 0, .string ⟨#[]⟩, .string ⟨#[97, 47, 98]⟩, .string ⟨#[104, 105]⟩, .slice aa 0 ca, .slice ac 0 cc] 35)).cell? ⟨w3.heap.size, o, none⟩ = (#[.int .i64 3, .bool false, .bool false, .bool false, .bool false, .int .i64 1, .int .i64 10, .int .i64 0, .int .i64 0, .string ⟨#[]⟩, .string ⟨#[97, 47, 98]⟩, .string ⟨#[104, 105]⟩, .slice aa 0 ca, .slice ac 0 cc] : Array Value)[o]? := HPc.out.cell
  revert HPc HBc HMc x1
  generalize w3.alloc (.cells #[.int .i64 3, .bool false, .bool false, .bool false, .bool false, .int .i64 1, .int .i64 10, .int .i64 0, .int .i64 0, .string ⟨#[]⟩, .string ⟨#[97, 47, 98]⟩, .string ⟨#[104, 105]⟩, .slice aa 0 ca, .slice ac 0 cc] 35) = W
  intro HPc HBc HMc x1
  clear HM1 HM2 HB2 HM3 HB3
  go_region_with (first
    | (go_at_call 15; refine (P1.out _).mono ?_; rintro e wx ⟨rfl, hbx⟩; have HPc := hide (pat_below HPc.out hbx); have HBc := hide (below_step HBc.out hbx); have HMc := hide (HMc.out.below hbx); have x1 := HPc.out.cell; simp only [pubPk] at x1; clear hbx)
    | (go_at_call 16; refine (P4.out _ HMc.out).mono ?_; rintro e wx ⟨rfl, hbx⟩; have HPc := hide (pat_below HPc.out hbx); have HBc := hide (below_step HBc.out hbx); have HMc := hide (HMc.out.below hbx); have x1 := HPc.out.cell; simp only [pubPk] at x1; clear hbx)
    | (go_at_call 17; refine (P5.out aa ac ca cc _).mono ?_; rintro e wx ⟨rfl, hbx⟩; have HPc := hide (pat_below HPc.out hbx); have HBc := hide (below_step HBc.out hbx); have HMc := hide (HMc.out.below hbx); have x1 := HPc.out.cell; simp only [pubPk] at x1; clear hbx))
  all_goals
    go_wp2
    go_ret
    exact ⟨rfl, HBc.out⟩
end Go.Proofs.YtnjdpibgfbbkcabGreatDoor
