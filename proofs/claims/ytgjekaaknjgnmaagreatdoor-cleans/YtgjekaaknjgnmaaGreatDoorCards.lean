/-
  DERIVED. GIVEN WITH THE SEED: THE CARDS: each row of YtgjekaaknjgnmaaGreatDoorRows.lean that lists a variable, with what it lists TIED to the program's text (the seventh form; the later family's looks); each row that meets fmt, with fmt's text TOLD by the authors' own Lean function (tested against real Go, not proved from fmt's source: count such statements apart). THE CARD IS WHAT COUNTS. Prove the row's statement (the work); the ties are given (YtgjekaaknjgnmaaGreatDoorTie.lean); close each card by the builder's one call (the guide's Derived/Test/ToyasCard.lean, 'card_holds'). Laid BY PROGRAM, IN A SANDBOX (cutbox-door.mjs). By AI agents, Wed Nov 11 2026. No macro, syntax, notation, axiom, sorry.
-/
import Derived.Test.YtgjekaaknjgnmaaGreatDoorRows
import GoSem.ClaimSeven
namespace Go.Proofs.YtgjekaaknjgnmaaGreatDoor
namespace Rows

/-- THE TIED CARD OF 'kilnlaw.Cleans'. -/
def cleansCard : Claim7 := { stood := { row := cleansRow, standIns := [], harness := (true, "272f22f5bcccea6d7e0721f040c47d03f23f0294770f25dab8d2c470e10df7bb"), looks := false }, kinds := [], alts := [], goes := true, laidByText := true, laidKinds := [.data, .data, .data], laidTests := true, laidLooks := .later }
def CleansCardSaid : Prop := Claim7.holds Tryz.pinned (.plain (OpenSpec.ofChange cleansSpec)) cleansCard

/-- THE TIED CARD OF 'kilnlaw.Builds'. -/
def buildsCard : Claim7 := { stood := { row := buildsRow, standIns := [], harness := (true, "272f22f5bcccea6d7e0721f040c47d03f23f0294770f25dab8d2c470e10df7bb"), looks := false }, kinds := [], alts := [], goes := true, laidByText := true, laidKinds := [.data, .data, .data], laidTests := true, laidLooks := .later }
def BuildsCardSaid : Prop := Claim7.holds Tryz.pinned (.plain (OpenSpec.ofChange buildsSpec)) buildsCard

/-- THE TIED CARD OF 'kilnkeep.Ordered'. -/
def orderedCard : Claim7 := { stood := { row := orderedRow, standIns := [], harness := (true, "272f22f5bcccea6d7e0721f040c47d03f23f0294770f25dab8d2c470e10df7bb"), looks := false }, kinds := [], alts := [], goes := true, laidByText := true, laidKinds := [.data, .data, .data], laidTests := true, laidLooks := .later }
def OrderedCardSaid : Prop := Claim7.holds Tryz.pinned (.plain (OpenSpec.ofChange orderedSpec)) orderedCard

/-- THE TIED CARD OF 'kilnkeep.Thrifty'. -/
def thriftyCard : Claim7 := { stood := { row := thriftyRow, standIns := [], harness := (true, "272f22f5bcccea6d7e0721f040c47d03f23f0294770f25dab8d2c470e10df7bb"), looks := false }, kinds := [], alts := [], goes := true, laidByText := true, laidKinds := [.data, .data, .data], laidTests := true, laidLooks := .later }
def ThriftyCardSaid : Prop := Claim7.holds Tryz.pinned (.plain (OpenSpec.ofChange thriftySpec)) thriftyCard

/-- THE TIED CARD OF 'kilnlaw.All'. -/
def allCard : Claim7 := { stood := { row := allRow, standIns := [], harness := (true, "272f22f5bcccea6d7e0721f040c47d03f23f0294770f25dab8d2c470e10df7bb"), looks := false }, kinds := [], alts := [], goes := true, laidByText := true, laidKinds := [.data, .data, .data], laidTests := true, laidLooks := .later }
def AllCardSaid : Prop := Claim7.holds Tryz.pinned (.plain (OpenSpec.ofChange allSpec)) allCard

/-- THE TIED CARD OF 'kilnkeep.Whole'. -/
def wholeCard : Claim7 := { stood := { row := wholeRow, standIns := [], harness := (true, "272f22f5bcccea6d7e0721f040c47d03f23f0294770f25dab8d2c470e10df7bb"), looks := false }, kinds := [], alts := [], goes := true, laidByText := true, laidKinds := [.data, .data, .data], laidTests := true, laidLooks := .later }
def WholeCardSaid : Prop := Claim7.holds Tryz.pinned (.plain (OpenSpec.ofChange wholeSpec)) wholeCard

/-- THE TIED CARD OF 'kilnkeep.Settles'. -/
def settlesCard : Claim7 := { stood := { row := settlesRow, standIns := [], harness := (true, "272f22f5bcccea6d7e0721f040c47d03f23f0294770f25dab8d2c470e10df7bb"), looks := false }, kinds := [], alts := [], goes := true, laidByText := true, laidKinds := [.data, .data, .data], laidTests := true, laidLooks := .later }
def SettlesCardSaid : Prop := Claim7.holds Tryz.pinned (.plain (OpenSpec.ofChange settlesSpec)) settlesCard

/-- THE TIED CARD OF 'kilnkeep.Watchful'. -/
def watchfulCard : Claim7 := { stood := { row := watchfulRow, standIns := [], harness := (true, "272f22f5bcccea6d7e0721f040c47d03f23f0294770f25dab8d2c470e10df7bb"), looks := false }, kinds := [], alts := [], goes := true, laidByText := true, laidKinds := [.data, .data, .data], laidTests := true, laidLooks := .later }
def WatchfulCardSaid : Prop := Claim7.holds Tryz.pinned (.plain (OpenSpec.ofChange watchfulSpec)) watchfulCard

/-- THE TIED CARD OF 'kilnkeep.Paced'. -/
def pacedCard : Claim7 := { stood := { row := pacedRow, standIns := [], harness := (true, "272f22f5bcccea6d7e0721f040c47d03f23f0294770f25dab8d2c470e10df7bb"), looks := false }, kinds := [], alts := [], goes := true, laidByText := true, laidKinds := [.data, .data, .data], laidTests := true, laidLooks := .later }
def PacedCardSaid : Prop := Claim7.holds Tryz.pinned (.plain (OpenSpec.ofChange pacedSpec)) pacedCard
end Rows
end Go.Proofs.YtgjekaaknjgnmaaGreatDoor
