/- Devices: the tied card. -/
import Derived.Test.YtifapongohmemaaGreatDoorCards
import Derived.Test.YtifapongohmemaaGreatDoorTie
import Derived.Test.YtifapongohmemaaGreatDoorProofs
import Derived.SevenTiedAt
namespace Go.Proofs.YtifapongohmemaaGreatDoor
open Go

set_option maxRecDepth 100000 in
theorem devices_card : Rows.DevicesCardSaid := by
  refine ⟨Claim7.tied_new_at .later [.data] true (Claim7.new_of_sixth devices_holds (true, "acdc2b7792b673bd6dd3b51129b491491857f40d3493bd451106e9ba3faff34c") false rfl ⟨rfl, rfl⟩ (by kernel_rfl) rfl ?_) (by kernel_rfl), (fun D hD => by cases hD), devices_row_tie, (fun h => by cases h), (by kernel_rfl)⟩
  intro f fn hf hfn
  obtain rfl : f = 3 := Option.some.inj ((show Tryz.prog.funcNamed "handout/handoutlaw.Devices" = some 3 by kernel_rfl).symm.trans hf) |>.symm
  obtain rfl : fn = Tryz.f3 := (Option.some.inj (Tryz.func3.symm.trans hfn)).symm
  refine ⟨by kernel_rfl, fun j t ht => ?_⟩
  rw [Tryz.params3] at ht
  have hm : t ∈ [22] := by simpa using Array.mem_of_getElem? ht
  have hall : ([22].all fun u => !Tryz.prog.wantsStandIn u) = true := by kernel_rfl
  exact (show Tryz.prog.wantsStandIn t = false by simpa using List.all_eq_true.1 hall t hm)

end Go.Proofs.YtifapongohmemaaGreatDoor
