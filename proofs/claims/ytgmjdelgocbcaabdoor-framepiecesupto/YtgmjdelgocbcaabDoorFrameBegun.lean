/-
  dragomanlaw.frameBegun answers true.
-/
import Derived.Test.YtgmjdelgocbcaabDoorFrameSame
namespace Go.Proofs.YtgmjdelgocbcaabDoor
open Go.RowKit Go.PlainAid

theorem begun_fd : fd (((⟨#[50, 9, 0, 3, 97, 47, 98, 0, 10, 104, 105]⟩ : ByteArray).extract 0 3) ++ ((⟨#[50, 9, 0, 3, 97, 47, 98, 0, 10, 104, 105]⟩ : ByteArray).extract 3 11 ++ ⟨#[50, 9, 0, 3, 97, 47, 98, 0, 10, 104, 105]⟩ ++ ⟨#[48]⟩)) = ([pubPk, pubPk], ⟨#[48]⟩, 0) := by
  have e : ((⟨#[50, 9, 0, 3, 97, 47, 98, 0, 10, 104, 105]⟩ : ByteArray).extract 0 3) ++ ((⟨#[50, 9, 0, 3, 97, 47, 98, 0, 10, 104, 105]⟩ : ByteArray).extract 3 11 ++ ⟨#[50, 9, 0, 3, 97, 47, 98, 0, 10, 104, 105]⟩ ++ ⟨#[48]⟩) = encP pubPk ++ (encP pubPk ++ ⟨#[48]⟩) := by rw [pub_enc]; decide +kernel
  have h6 : (encP pubPk).size ≤ 600 := by rw [pub_enc]; decide +kernel
  rw [e, fd_enc pub_chk h6, fd_enc pub_chk h6, fd_short (s := ⟨#[48]⟩) (by decide) (by decide +kernel)]
def pubs : List Lp := [⟨pubPk, none, 0, none, 0⟩, ⟨pubPk, none, 0, none, 0⟩]
theorem pubs_lie (W : World) (b : Nat) (hb : b = W.heap.size) : Lies 0 (W.alloc (.cells #[.int .i64 3, .bool false, .bool false, .bool false, .bool false, .int .i64 1, .int .i64 10, .int .i64 0, .int .i64 0, .string ⟨#[]⟩, .string ⟨#[97, 47, 98]⟩, .string ⟨#[104, 105]⟩, .slice none 0 0, .slice none 0 0, .int .i64 3, .bool false, .bool false, .bool false, .bool false, .int .i64 1, .int .i64 10, .int .i64 0, .int .i64 0, .string ⟨#[]⟩, .string ⟨#[97, 47, 98]⟩, .string ⟨#[104, 105]⟩, .slice none 0 0, .slice none 0 0] 25)) (some ⟨b, 0, none⟩) pubs := by
  subst hb
  refine ⟨.inr ⟨W.heap.size, 0, rfl, by simp, fun j u hu => ?_⟩, fun q hq => ?_⟩
  · rw [Nat.zero_add, Lib.cell_of_heap (Go.heap_alloc_new W _)]
    rw [← hu]
    simp [lpCells, pubs, lpC, pubPk]
  · simp only [pubs, List.mem_cons, List.not_mem_nil, or_false, or_self] at hq
    subst hq
    exact ⟨⟨.inl rfl, .inl rfl⟩, .inl rfl, .inl rfl⟩

set_option maxHeartbeats 8000000 in
set_option maxRecDepth 100000 in
theorem frameBegun_yes (w : World) (hm : Max w) : Calls Tryd.prog 17 #[] w fun e w' => e = .returned (.bool true) ∧ Below w.heap.size w w' := by
  have HM := hide hm
  have CF : Hid (∀ V, Max V → Calls Tryd.prog 16 #[.string ((⟨#[50, 9, 0, 3, 97, 47, 98, 0, 10, 104, 105]⟩ : ByteArray).extract 0 3), .string ((⟨#[50, 9, 0, 3, 97, 47, 98, 0, 10, 104, 105]⟩ : ByteArray).extract 3 11 ++ ⟨#[50, 9, 0, 3, 97, 47, 98, 0, 10, 104, 105]⟩ ++ ⟨#[48]⟩)] V (FeedPost V ([pubPk, pubPk], ⟨#[48]⟩, 0))) := fun V hV => by
    have := feed_any ((⟨#[50, 9, 0, 3, 97, 47, 98, 0, 10, 104, 105]⟩ : ByteArray).extract 0 3) ((⟨#[50, 9, 0, 3, 97, 47, 98, 0, 10, 104, 105]⟩ : ByteArray).extract 3 11 ++ ⟨#[50, 9, 0, 3, 97, 47, 98, 0, 10, 104, 105]⟩ ++ ⟨#[48]⟩) V (by decide +kernel) hV
    rwa [begun_fd] at this
  clear hm
  go_enter Tryd.func17, Tryd.ntmps17
  go_wp2_with fail
  refine (pub_any _).mono ?_
  rintro e w1 ⟨rfl, hb1⟩
  have HB := hide hb1
  clear hb1
  have HE := hide (pub_encode w1 (HM.out.below HB.out))
  go_wp2_with fail
  refine HE.out.mono ?_
  rintro e w2 ⟨rfl, hb⟩
  have HB := hide (below_step HB.out hb)
  clear hb HE
  go_wp2_with fail
  have HB := hide (below_step HB.out (Below.drew (Below.refl _ _)))
  go_region_held3 (fun _ => True) (exact trivial)
    (first
    | (go_at_call 16; refine (CF.out _ (HM.out.below HB.out)).mono ?_; rintro e w3 ⟨ao, co, Q, rfl, hQ, hL, hb⟩; have HB := hide (below_step HB.out hb); have HL := hide hL; have HQ := hide hQ; clear hb hL hQ)
    | fail)
  have hq2 : Q.length = 2 := by have := congrArg List.length HQ.out; simpa using this
  clear CF
  go_wp2_with fail
  refine (pub_any _).mono ?_
  rintro e w4 ⟨rfl, hb⟩
  simp only [pkV, pubPk, List.length_nil]
  have HB := hide (below_step HB.out hb)
  have HL := hide (HL.out.step hb)
  clear hb
  go_wp2_with fail
  refine (pub_any _).mono ?_
  rintro e w5 ⟨rfl, hb⟩
  simp only [pkV, pubPk, List.length_nil]
  have HB := hide (below_step HB.out hb)
  have HL := hide (HL.out.step hb)
  clear hb
  have HB6 := hide (HB.out.alloc HB.out.size (.cells #[.int .i64 3, .bool false, .bool false, .bool false, .bool false, .int .i64 1, .int .i64 10, .int .i64 0, .int .i64 0, .string ⟨#[]⟩, .string ⟨#[97, 47, 98]⟩, .string ⟨#[104, 105]⟩, .slice none 0 0, .slice none 0 0, .int .i64 3, .bool false, .bool false, .bool false, .bool false, .int .i64 1, .int .i64 10, .int .i64 0, .int .i64 0, .string ⟨#[]⟩, .string ⟨#[97, 47, 98]⟩, .string ⟨#[104, 105]⟩, .slice none 0 0, .slice none 0 0] 25))
  have HC : Hid (Calls Tryd.prog 18 #[.slice ao Q.length co, .slice (some ⟨w5.heap.size, 0, none⟩) 2 2] (w5.alloc (.cells #[.int .i64 3, .bool false, .bool false, .bool false, .bool false, .int .i64 1, .int .i64 10, .int .i64 0, .int .i64 0, .string ⟨#[]⟩, .string ⟨#[97, 47, 98]⟩, .string ⟨#[104, 105]⟩, .slice none 0 0, .slice none 0 0, .int .i64 3, .bool false, .bool false, .bool false, .bool false, .int .i64 1, .int .i64 10, .int .i64 0, .int .i64 0, .string ⟨#[]⟩, .string ⟨#[97, 47, 98]⟩, .string ⟨#[104, 105]⟩, .slice none 0 0, .slice none 0 0] 25)) fun e w' => e = .returned (.bool true) ∧ Below (w5.alloc (.cells #[.int .i64 3, .bool false, .bool false, .bool false, .bool false, .int .i64 1, .int .i64 10, .int .i64 0, .int .i64 0, .string ⟨#[]⟩, .string ⟨#[97, 47, 98]⟩, .string ⟨#[104, 105]⟩, .slice none 0 0, .slice none 0 0, .int .i64 3, .bool false, .bool false, .bool false, .bool false, .int .i64 1, .int .i64 10, .int .i64 0, .int .i64 0, .string ⟨#[]⟩, .string ⟨#[97, 47, 98]⟩, .string ⟨#[104, 105]⟩, .slice none 0 0, .slice none 0 0] 25)).heap.size (w5.alloc (.cells #[.int .i64 3, .bool false, .bool false, .bool false, .bool false, .int .i64 1, .int .i64 10, .int .i64 0, .int .i64 0, .string ⟨#[]⟩, .string ⟨#[97, 47, 98]⟩, .string ⟨#[104, 105]⟩, .slice none 0 0, .slice none 0 0, .int .i64 3, .bool false, .bool false, .bool false, .bool false, .int .i64 1, .int .i64 10, .int .i64 0, .int .i64 0, .string ⟨#[]⟩, .string ⟨#[97, 47, 98]⟩, .string ⟨#[104, 105]⟩, .slice none 0 0, .slice none 0 0] 25)) w') :=
    samePks_yes Q pubs ao (some ⟨w5.heap.size, 0, none⟩) co 2 _ (HL.out.step ((Below.refl _ w5).alloc (Nat.le_refl _) _)) (pubs_lie w5 _ rfl) HQ.out (fun q hq => by
      have : q.p ∈ Q.map Lp.p := List.mem_map_of_mem hq
      rw [HQ.out] at this
      simp only [List.mem_cons, List.not_mem_nil, or_false, or_self] at this
      rw [this]
      decide) (by omega)
  rw [hq2] at HC
  go_wp2_with fail
  refine HC.out.mono ?_
  rintro e w6 ⟨rfl, hb⟩
  have HB7 := hide (below_step HB6.out hb)
  clear hb HC HB6 HL HQ
  go_wp2
  go_ret
  exact ⟨rfl, HB7.out⟩
end Go.Proofs.YtgmjdelgocbcaabDoor
