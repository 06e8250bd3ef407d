/-
  DERIVED. GIVEN WITH THE SEED: THE CARDS: each row of YtifapongohmemaaGreatDoorRows.lean that lists a variable, with what it lists TIED to the program's text (the seventh form; the later family's looks); each row that meets fmt, with fmt's text TOLD by the authors' own Lean function (tested against real Go, not proved from fmt's source: count such statements apart). THE CARD IS WHAT COUNTS. Prove the row's statement (the work); the ties are given (YtifapongohmemaaGreatDoorTie.lean); close each card by the builder's one call (the guide's Derived/Test/ToyasCard.lean, 'card_holds'). Laid BY PROGRAM, IN A SANDBOX (cutbox-door.mjs). By AI agents, Wed Nov 11 2026. No macro, syntax, notation, axiom, sorry.
-/
import Derived.Test.YtifapongohmemaaGreatDoorRows
import GoSem.ClaimSeven
namespace Go.Proofs.YtifapongohmemaaGreatDoor
namespace Rows

/-- THE TIED CARD OF 'handoutlaw.Devices'. -/
def devicesCard : Claim7 := { stood := { row := devicesRow, standIns := [], harness := (true, "acdc2b7792b673bd6dd3b51129b491491857f40d3493bd451106e9ba3faff34c"), looks := false }, kinds := [], alts := [], goes := true, laidByText := true, laidKinds := [.data], laidTests := true, laidLooks := .later }
def DevicesCardSaid : Prop := Claim7.holds Tryz.pinned (.plain (OpenSpec.ofChange devicesSpec)) devicesCard

/-- THE TIED CARD OF 'handoutlaw.Tasks'. -/
def tasksCard : Claim7 := { stood := { row := tasksRow, standIns := [], harness := (true, "acdc2b7792b673bd6dd3b51129b491491857f40d3493bd451106e9ba3faff34c"), looks := false }, kinds := [], alts := [], goes := true, laidByText := true, laidKinds := [.data], laidTests := true, laidLooks := .later }
def TasksCardSaid : Prop := Claim7.holds Tryz.pinned (.plain (OpenSpec.ofChange tasksSpec)) tasksCard

/-- THE TIED CARD OF 'handoutkeep.Ordered'. -/
def orderedCard : Claim7 := { stood := { row := orderedRow, standIns := [], harness := (true, "acdc2b7792b673bd6dd3b51129b491491857f40d3493bd451106e9ba3faff34c"), looks := false }, kinds := [], alts := [], goes := true, laidByText := true, laidKinds := [.data], laidTests := true, laidLooks := .later }
def OrderedCardSaid : Prop := Claim7.holds Tryz.pinned (.plain (OpenSpec.ofChange orderedSpec)) orderedCard

/-- THE TIED CARD OF 'handoutkeep.Twice'. -/
def twiceCard : Claim7 := { stood := { row := twiceRow, standIns := [], harness := (true, "acdc2b7792b673bd6dd3b51129b491491857f40d3493bd451106e9ba3faff34c"), looks := false }, kinds := [], alts := [], goes := true, laidByText := true, laidKinds := [.data], laidTests := true, laidLooks := .later }
def TwiceCardSaid : Prop := Claim7.holds Tryz.pinned (.plain (OpenSpec.ofChange twiceSpec)) twiceCard

/-- THE TIED CARD OF 'handoutkeep.Moved'. -/
def movedCard : Claim7 := { stood := { row := movedRow, standIns := [], harness := (true, "acdc2b7792b673bd6dd3b51129b491491857f40d3493bd451106e9ba3faff34c"), looks := false }, kinds := [], alts := [], goes := true, laidByText := true, laidKinds := [.data], laidTests := true, laidLooks := .later }
def MovedCardSaid : Prop := Claim7.holds Tryz.pinned (.plain (OpenSpec.ofChange movedSpec)) movedCard

/-- THE TIED CARD OF 'handoutlaw.Leases'. -/
def leasesCard : Claim7 := { stood := { row := leasesRow, standIns := [], harness := (true, "acdc2b7792b673bd6dd3b51129b491491857f40d3493bd451106e9ba3faff34c"), looks := false }, kinds := [], alts := [], goes := true, laidByText := true, laidKinds := [.data], laidTests := true, laidLooks := .later }
def LeasesCardSaid : Prop := Claim7.holds Tryz.pinned (.plain (OpenSpec.ofChange leasesSpec)) leasesCard

/-- THE TIED CARD OF 'handoutkeep.Limited'. -/
def limitedCard : Claim7 := { stood := { row := limitedRow, standIns := [], harness := (true, "acdc2b7792b673bd6dd3b51129b491491857f40d3493bd451106e9ba3faff34c"), looks := false }, kinds := [], alts := [], goes := true, laidByText := true, laidKinds := [.data], laidTests := true, laidLooks := .later }
def LimitedCardSaid : Prop := Claim7.holds Tryz.pinned (.plain (OpenSpec.ofChange limitedSpec)) limitedCard

/-- THE TIED CARD OF 'handoutkeep.Once'. -/
def onceCard : Claim7 := { stood := { row := onceRow, standIns := [], harness := (true, "acdc2b7792b673bd6dd3b51129b491491857f40d3493bd451106e9ba3faff34c"), looks := false }, kinds := [], alts := [], goes := true, laidByText := true, laidKinds := [.data], laidTests := true, laidLooks := .later }
def OnceCardSaid : Prop := Claim7.holds Tryz.pinned (.plain (OpenSpec.ofChange onceSpec)) onceCard

/-- THE TIED CARD OF 'handoutkeep.Kept'. -/
def keptCard : Claim7 := { stood := { row := keptRow, standIns := [], harness := (true, "acdc2b7792b673bd6dd3b51129b491491857f40d3493bd451106e9ba3faff34c"), looks := false }, kinds := [], alts := [], goes := true, laidByText := true, laidKinds := [.data], laidTests := true, laidLooks := .later }
def KeptCardSaid : Prop := Claim7.holds Tryz.pinned (.plain (OpenSpec.ofChange keptSpec)) keptCard

/-- THE TIED CARD OF 'handoutkeep.Bonded'. -/
def bondedCard : Claim7 := { stood := { row := bondedRow, standIns := [], harness := (true, "acdc2b7792b673bd6dd3b51129b491491857f40d3493bd451106e9ba3faff34c"), looks := false }, kinds := [], alts := [], goes := true, laidByText := true, laidKinds := [.data], laidTests := true, laidLooks := .later }
def BondedCardSaid : Prop := Claim7.holds Tryz.pinned (.plain (OpenSpec.ofChange bondedSpec)) bondedCard

/-- THE TIED CARD OF 'handoutkeep.Waiting'. -/
def waitingCard : Claim7 := { stood := { row := waitingRow, standIns := [], harness := (true, "acdc2b7792b673bd6dd3b51129b491491857f40d3493bd451106e9ba3faff34c"), looks := false }, kinds := [], alts := [], goes := true, laidByText := true, laidKinds := [.data], laidTests := true, laidLooks := .later }
def WaitingCardSaid : Prop := Claim7.holds Tryz.pinned (.plain (OpenSpec.ofChange waitingSpec)) waitingCard

/-- THE SECOND FORM's CARD OF 'handoutlaw.Devices'. -/
def devicesUptoCard : Claim7 := { stood := { row := devicesUptoRow, standIns := [], harness := (true, "acdc2b7792b673bd6dd3b51129b491491857f40d3493bd451106e9ba3faff34c"), looks := false }, kinds := [], alts := [], goes := true, laidByText := true, laidKinds := [.data], laidTests := true, laidLooks := .later }
def DevicesUptoCardSaid : Prop := Claim7.holds Tryz.pinned (.plain (OpenSpec.upto devicesSpec)) devicesUptoCard

/-- THE SECOND FORM's CARD OF 'handoutlaw.Tasks'. -/
def tasksUptoCard : Claim7 := { stood := { row := tasksUptoRow, standIns := [], harness := (true, "acdc2b7792b673bd6dd3b51129b491491857f40d3493bd451106e9ba3faff34c"), looks := false }, kinds := [], alts := [], goes := true, laidByText := true, laidKinds := [.data], laidTests := true, laidLooks := .later }
def TasksUptoCardSaid : Prop := Claim7.holds Tryz.pinned (.plain (OpenSpec.upto tasksSpec)) tasksUptoCard

/-- THE SECOND FORM's CARD OF 'handoutkeep.Ordered'. -/
def orderedUptoCard : Claim7 := { stood := { row := orderedUptoRow, standIns := [], harness := (true, "acdc2b7792b673bd6dd3b51129b491491857f40d3493bd451106e9ba3faff34c"), looks := false }, kinds := [], alts := [], goes := true, laidByText := true, laidKinds := [.data], laidTests := true, laidLooks := .later }
def OrderedUptoCardSaid : Prop := Claim7.holds Tryz.pinned (.plain (OpenSpec.upto orderedSpec)) orderedUptoCard

/-- THE SECOND FORM's CARD OF 'handoutkeep.Twice'. -/
def twiceUptoCard : Claim7 := { stood := { row := twiceUptoRow, standIns := [], harness := (true, "acdc2b7792b673bd6dd3b51129b491491857f40d3493bd451106e9ba3faff34c"), looks := false }, kinds := [], alts := [], goes := true, laidByText := true, laidKinds := [.data], laidTests := true, laidLooks := .later }
def TwiceUptoCardSaid : Prop := Claim7.holds Tryz.pinned (.plain (OpenSpec.upto twiceSpec)) twiceUptoCard

/-- THE SECOND FORM's CARD OF 'handoutkeep.Moved'. -/
def movedUptoCard : Claim7 := { stood := { row := movedUptoRow, standIns := [], harness := (true, "acdc2b7792b673bd6dd3b51129b491491857f40d3493bd451106e9ba3faff34c"), looks := false }, kinds := [], alts := [], goes := true, laidByText := true, laidKinds := [.data], laidTests := true, laidLooks := .later }
def MovedUptoCardSaid : Prop := Claim7.holds Tryz.pinned (.plain (OpenSpec.upto movedSpec)) movedUptoCard

/-- THE SECOND FORM's CARD OF 'handoutlaw.Leases'. -/
def leasesUptoCard : Claim7 := { stood := { row := leasesUptoRow, standIns := [], harness := (true, "acdc2b7792b673bd6dd3b51129b491491857f40d3493bd451106e9ba3faff34c"), looks := false }, kinds := [], alts := [], goes := true, laidByText := true, laidKinds := [.data], laidTests := true, laidLooks := .later }
def LeasesUptoCardSaid : Prop := Claim7.holds Tryz.pinned (.plain (OpenSpec.upto leasesSpec)) leasesUptoCard

/-- THE SECOND FORM's CARD OF 'handoutkeep.Limited'. -/
def limitedUptoCard : Claim7 := { stood := { row := limitedUptoRow, standIns := [], harness := (true, "acdc2b7792b673bd6dd3b51129b491491857f40d3493bd451106e9ba3faff34c"), looks := false }, kinds := [], alts := [], goes := true, laidByText := true, laidKinds := [.data], laidTests := true, laidLooks := .later }
def LimitedUptoCardSaid : Prop := Claim7.holds Tryz.pinned (.plain (OpenSpec.upto limitedSpec)) limitedUptoCard

/-- THE SECOND FORM's CARD OF 'handoutkeep.Once'. -/
def onceUptoCard : Claim7 := { stood := { row := onceUptoRow, standIns := [], harness := (true, "acdc2b7792b673bd6dd3b51129b491491857f40d3493bd451106e9ba3faff34c"), looks := false }, kinds := [], alts := [], goes := true, laidByText := true, laidKinds := [.data], laidTests := true, laidLooks := .later }
def OnceUptoCardSaid : Prop := Claim7.holds Tryz.pinned (.plain (OpenSpec.upto onceSpec)) onceUptoCard

/-- THE SECOND FORM's CARD OF 'handoutkeep.Kept'. -/
def keptUptoCard : Claim7 := { stood := { row := keptUptoRow, standIns := [], harness := (true, "acdc2b7792b673bd6dd3b51129b491491857f40d3493bd451106e9ba3faff34c"), looks := false }, kinds := [], alts := [], goes := true, laidByText := true, laidKinds := [.data], laidTests := true, laidLooks := .later }
def KeptUptoCardSaid : Prop := Claim7.holds Tryz.pinned (.plain (OpenSpec.upto keptSpec)) keptUptoCard

/-- THE SECOND FORM's CARD OF 'handoutkeep.Bonded'. -/
def bondedUptoCard : Claim7 := { stood := { row := bondedUptoRow, standIns := [], harness := (true, "acdc2b7792b673bd6dd3b51129b491491857f40d3493bd451106e9ba3faff34c"), looks := false }, kinds := [], alts := [], goes := true, laidByText := true, laidKinds := [.data], laidTests := true, laidLooks := .later }
def BondedUptoCardSaid : Prop := Claim7.holds Tryz.pinned (.plain (OpenSpec.upto bondedSpec)) bondedUptoCard

/-- THE SECOND FORM's CARD OF 'handoutkeep.Waiting'. -/
def waitingUptoCard : Claim7 := { stood := { row := waitingUptoRow, standIns := [], harness := (true, "acdc2b7792b673bd6dd3b51129b491491857f40d3493bd451106e9ba3faff34c"), looks := false }, kinds := [], alts := [], goes := true, laidByText := true, laidKinds := [.data], laidTests := true, laidLooks := .later }
def WaitingUptoCardSaid : Prop := Claim7.holds Tryz.pinned (.plain (OpenSpec.upto waitingSpec)) waitingUptoCard
end Rows
end Go.Proofs.YtifapongohmemaaGreatDoor
