/-
  DERIVED. GIVEN WITH THE SEED: THE CARDS: each row of YtpnfofbkedpdpaaGreatDoorRows.lean that lists a variable, with what it lists TIED to the program's text (the seventh form; the later family's looks); each row that meets fmt, with fmt's text TOLD by the authors' own Lean function (tested against real Go, not proved from fmt's source: count such statements apart). THE CARD IS WHAT COUNTS. Prove the row's statement (the work); the ties are given (YtpnfofbkedpdpaaGreatDoorTie.lean); close each card by the builder's one call (the guide's Derived/Test/ToyasCard.lean, 'card_holds'). Laid BY PROGRAM, IN A SANDBOX (cutbox-door.mjs). By AI agents, Wed Nov 11 2026. No macro, syntax, notation, axiom, sorry.
-/
import Derived.Test.YtpnfofbkedpdpaaGreatDoorRows
import GoSem.ClaimSeven
namespace Go.Proofs.YtpnfofbkedpdpaaGreatDoor
namespace Rows

/-- THE TIED CARD OF 'handoutlaw.Devices'. -/
def devicesCard : Claim7 := { stood := { row := devicesRow, standIns := [], harness := (true, "36ac92717e4cbf142907d783c205f716c739a3582bbf26916fb6ea0ecaed1274"), looks := false }, kinds := [], alts := [], goes := true, laidByText := true, laidKinds := [.data], laidTests := true, laidLooks := .later }
def DevicesCardSaid : Prop := Claim7.holds Tryz.pinned (.plain (OpenSpec.ofChange devicesSpec)) devicesCard

/-- THE TIED CARD OF 'handoutlaw.Tasks'. -/
def tasksCard : Claim7 := { stood := { row := tasksRow, standIns := [], harness := (true, "36ac92717e4cbf142907d783c205f716c739a3582bbf26916fb6ea0ecaed1274"), looks := false }, kinds := [], alts := [], goes := true, laidByText := true, laidKinds := [.data], laidTests := true, laidLooks := .later }
def TasksCardSaid : Prop := Claim7.holds Tryz.pinned (.plain (OpenSpec.ofChange tasksSpec)) tasksCard

/-- THE TIED CARD OF 'handoutkeep.Ordered'. -/
def orderedCard : Claim7 := { stood := { row := orderedRow, standIns := [], harness := (true, "36ac92717e4cbf142907d783c205f716c739a3582bbf26916fb6ea0ecaed1274"), looks := false }, kinds := [], alts := [], goes := true, laidByText := true, laidKinds := [.data], laidTests := true, laidLooks := .later }
def OrderedCardSaid : Prop := Claim7.holds Tryz.pinned (.plain (OpenSpec.ofChange orderedSpec)) orderedCard

/-- THE TIED CARD OF 'handoutkeep.Twice'. -/
def twiceCard : Claim7 := { stood := { row := twiceRow, standIns := [], harness := (true, "36ac92717e4cbf142907d783c205f716c739a3582bbf26916fb6ea0ecaed1274"), looks := false }, kinds := [], alts := [], goes := true, laidByText := true, laidKinds := [.data], laidTests := true, laidLooks := .later }
def TwiceCardSaid : Prop := Claim7.holds Tryz.pinned (.plain (OpenSpec.ofChange twiceSpec)) twiceCard

/-- THE TIED CARD OF 'handoutkeep.Moved'. -/
def movedCard : Claim7 := { stood := { row := movedRow, standIns := [], harness := (true, "36ac92717e4cbf142907d783c205f716c739a3582bbf26916fb6ea0ecaed1274"), looks := false }, kinds := [], alts := [], goes := true, laidByText := true, laidKinds := [.data], laidTests := true, laidLooks := .later }
def MovedCardSaid : Prop := Claim7.holds Tryz.pinned (.plain (OpenSpec.ofChange movedSpec)) movedCard

/-- THE TIED CARD OF 'handoutlaw.Leases'. -/
def leasesCard : Claim7 := { stood := { row := leasesRow, standIns := [], harness := (true, "36ac92717e4cbf142907d783c205f716c739a3582bbf26916fb6ea0ecaed1274"), looks := false }, kinds := [], alts := [], goes := true, laidByText := true, laidKinds := [.data], laidTests := true, laidLooks := .later }
def LeasesCardSaid : Prop := Claim7.holds Tryz.pinned (.plain (OpenSpec.ofChange leasesSpec)) leasesCard

/-- THE TIED CARD OF 'handoutkeep.Kept'. -/
def keptCard : Claim7 := { stood := { row := keptRow, standIns := [], harness := (true, "36ac92717e4cbf142907d783c205f716c739a3582bbf26916fb6ea0ecaed1274"), looks := false }, kinds := [], alts := [], goes := true, laidByText := true, laidKinds := [.data], laidTests := true, laidLooks := .later }
def KeptCardSaid : Prop := Claim7.holds Tryz.pinned (.plain (OpenSpec.ofChange keptSpec)) keptCard

/-- THE SECOND FORM's CARD OF 'handoutlaw.Devices'. -/
def devicesUptoCard : Claim7 := { stood := { row := devicesUptoRow, standIns := [], harness := (true, "36ac92717e4cbf142907d783c205f716c739a3582bbf26916fb6ea0ecaed1274"), looks := false }, kinds := [], alts := [], goes := true, laidByText := true, laidKinds := [.data], laidTests := true, laidLooks := .later }
def DevicesUptoCardSaid : Prop := Claim7.holds Tryz.pinned (.plain (OpenSpec.upto devicesSpec)) devicesUptoCard

/-- THE SECOND FORM's CARD OF 'handoutlaw.Tasks'. -/
def tasksUptoCard : Claim7 := { stood := { row := tasksUptoRow, standIns := [], harness := (true, "36ac92717e4cbf142907d783c205f716c739a3582bbf26916fb6ea0ecaed1274"), looks := false }, kinds := [], alts := [], goes := true, laidByText := true, laidKinds := [.data], laidTests := true, laidLooks := .later }
def TasksUptoCardSaid : Prop := Claim7.holds Tryz.pinned (.plain (OpenSpec.upto tasksSpec)) tasksUptoCard

/-- THE SECOND FORM's CARD OF 'handoutkeep.Ordered'. -/
def orderedUptoCard : Claim7 := { stood := { row := orderedUptoRow, standIns := [], harness := (true, "36ac92717e4cbf142907d783c205f716c739a3582bbf26916fb6ea0ecaed1274"), looks := false }, kinds := [], alts := [], goes := true, laidByText := true, laidKinds := [.data], laidTests := true, laidLooks := .later }
def OrderedUptoCardSaid : Prop := Claim7.holds Tryz.pinned (.plain (OpenSpec.upto orderedSpec)) orderedUptoCard

/-- THE SECOND FORM's CARD OF 'handoutkeep.Twice'. -/
def twiceUptoCard : Claim7 := { stood := { row := twiceUptoRow, standIns := [], harness := (true, "36ac92717e4cbf142907d783c205f716c739a3582bbf26916fb6ea0ecaed1274"), looks := false }, kinds := [], alts := [], goes := true, laidByText := true, laidKinds := [.data], laidTests := true, laidLooks := .later }
def TwiceUptoCardSaid : Prop := Claim7.holds Tryz.pinned (.plain (OpenSpec.upto twiceSpec)) twiceUptoCard

/-- THE SECOND FORM's CARD OF 'handoutkeep.Moved'. -/
def movedUptoCard : Claim7 := { stood := { row := movedUptoRow, standIns := [], harness := (true, "36ac92717e4cbf142907d783c205f716c739a3582bbf26916fb6ea0ecaed1274"), looks := false }, kinds := [], alts := [], goes := true, laidByText := true, laidKinds := [.data], laidTests := true, laidLooks := .later }
def MovedUptoCardSaid : Prop := Claim7.holds Tryz.pinned (.plain (OpenSpec.upto movedSpec)) movedUptoCard

/-- THE SECOND FORM's CARD OF 'handoutlaw.Leases'. -/
def leasesUptoCard : Claim7 := { stood := { row := leasesUptoRow, standIns := [], harness := (true, "36ac92717e4cbf142907d783c205f716c739a3582bbf26916fb6ea0ecaed1274"), looks := false }, kinds := [], alts := [], goes := true, laidByText := true, laidKinds := [.data], laidTests := true, laidLooks := .later }
def LeasesUptoCardSaid : Prop := Claim7.holds Tryz.pinned (.plain (OpenSpec.upto leasesSpec)) leasesUptoCard

/-- THE SECOND FORM's CARD OF 'handoutkeep.Kept'. -/
def keptUptoCard : Claim7 := { stood := { row := keptUptoRow, standIns := [], harness := (true, "36ac92717e4cbf142907d783c205f716c739a3582bbf26916fb6ea0ecaed1274"), looks := false }, kinds := [], alts := [], goes := true, laidByText := true, laidKinds := [.data], laidTests := true, laidLooks := .later }
def KeptUptoCardSaid : Prop := Claim7.holds Tryz.pinned (.plain (OpenSpec.upto keptSpec)) keptUptoCard
end Rows
end Go.Proofs.YtpnfofbkedpdpaaGreatDoor
