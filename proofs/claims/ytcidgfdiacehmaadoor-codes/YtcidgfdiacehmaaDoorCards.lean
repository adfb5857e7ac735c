/-
  DERIVED. GIVEN WITH THE SEED: THE CARDS: each row of YtcidgfdiacehmaaDoorRows.lean that lists a variable, with what it lists TIED to the program's text (the seventh form; the later family's looks); each row that meets fmt, with fmt's text TOLD by the authors' own Lean function (tested against real Go, not proved from fmt's source: count such statements apart). THE CARD IS WHAT COUNTS. Prove the row's statement (the work); the ties are given (YtcidgfdiacehmaaDoorTie.lean); close each card by the builder's one call (the guide's Derived/Test/ToyasCard.lean, 'card_holds'). Laid BY PROGRAM, IN A SANDBOX (cutbox-door.mjs). By AI agents, Wed Nov 11 2026. No macro, syntax, notation, axiom, sorry.
-/
import Derived.Test.YtcidgfdiacehmaaDoorRows
import GoSem.ClaimSeven
namespace Go.Proofs.YtcidgfdiacehmaaDoor
namespace Rows

/-- THE TIED CARD OF 'choirlaw.Codes'. -/
def codesCard : Claim7 := { stood := { row := codesRow, standIns := [], harness := (true, "fa347ad94917bcb91e1c6a37716bb1a53b03a57fc0beea9bbeafcfbf9115bcc8"), looks := false }, kinds := [], alts := [], laidByText := true, laidKinds := [.data, .data], laidTests := true, laidLooks := .later }
def CodesCardSaid : Prop := Claim7.holds Tryd.pinned (.plain (OpenSpec.ofChange codesSpec)) codesCard

/-- THE TIED CARD OF 'choirkeep.Round'. -/
def roundCard : Claim7 := { stood := { row := roundRow, standIns := [], harness := (true, "fa347ad94917bcb91e1c6a37716bb1a53b03a57fc0beea9bbeafcfbf9115bcc8"), looks := false }, kinds := [], alts := [], laidByText := true, laidKinds := [.data, .data], laidTests := true, laidLooks := .later }
def RoundCardSaid : Prop := Claim7.holds Tryd.pinned (.plain (OpenSpec.ofChange roundSpec)) roundCard

/-- THE TIED CARD OF 'choirkeep.One'. -/
def oneCard : Claim7 := { stood := { row := oneRow, standIns := [], harness := (true, "fa347ad94917bcb91e1c6a37716bb1a53b03a57fc0beea9bbeafcfbf9115bcc8"), looks := false }, kinds := [], alts := [], laidByText := true, laidKinds := [.data, .data], laidTests := true, laidLooks := .later }
def OneCardSaid : Prop := Claim7.holds Tryd.pinned (.plain (OpenSpec.ofChange oneSpec)) oneCard

/-- THE TIED CARD OF 'choirkeep.Bursts'. -/
def burstsCard : Claim7 := { stood := { row := burstsRow, standIns := [], harness := (true, "fa347ad94917bcb91e1c6a37716bb1a53b03a57fc0beea9bbeafcfbf9115bcc8"), looks := false }, kinds := [], alts := [], laidByText := true, laidKinds := [.data, .data], laidTests := true, laidLooks := .later }
def BurstsCardSaid : Prop := Claim7.holds Tryd.pinned (.plain (OpenSpec.ofChange burstsSpec)) burstsCard

/-- THE SECOND FORM's CARD OF 'choirlaw.Codes'. -/
def codesUptoCard : Claim7 := { stood := { row := codesUptoRow, standIns := [], harness := (true, "fa347ad94917bcb91e1c6a37716bb1a53b03a57fc0beea9bbeafcfbf9115bcc8"), looks := false }, kinds := [], alts := [], laidByText := true, laidKinds := [.data, .data], laidTests := true, laidLooks := .later }
def CodesUptoCardSaid : Prop := Claim7.holds Tryd.pinned (.plain (OpenSpec.upto codesSpec)) codesUptoCard

/-- THE SECOND FORM's CARD OF 'choirkeep.Round'. -/
def roundUptoCard : Claim7 := { stood := { row := roundUptoRow, standIns := [], harness := (true, "fa347ad94917bcb91e1c6a37716bb1a53b03a57fc0beea9bbeafcfbf9115bcc8"), looks := false }, kinds := [], alts := [], laidByText := true, laidKinds := [.data, .data], laidTests := true, laidLooks := .later }
def RoundUptoCardSaid : Prop := Claim7.holds Tryd.pinned (.plain (OpenSpec.upto roundSpec)) roundUptoCard

/-- THE SECOND FORM's CARD OF 'choirkeep.One'. -/
def oneUptoCard : Claim7 := { stood := { row := oneUptoRow, standIns := [], harness := (true, "fa347ad94917bcb91e1c6a37716bb1a53b03a57fc0beea9bbeafcfbf9115bcc8"), looks := false }, kinds := [], alts := [], laidByText := true, laidKinds := [.data, .data], laidTests := true, laidLooks := .later }
def OneUptoCardSaid : Prop := Claim7.holds Tryd.pinned (.plain (OpenSpec.upto oneSpec)) oneUptoCard

/-- THE SECOND FORM's CARD OF 'choirkeep.Bursts'. -/
def burstsUptoCard : Claim7 := { stood := { row := burstsUptoRow, standIns := [], harness := (true, "fa347ad94917bcb91e1c6a37716bb1a53b03a57fc0beea9bbeafcfbf9115bcc8"), looks := false }, kinds := [], alts := [], laidByText := true, laidKinds := [.data, .data], laidTests := true, laidLooks := .later }
def BurstsUptoCardSaid : Prop := Claim7.holds Tryd.pinned (.plain (OpenSpec.upto burstsSpec)) burstsUptoCard
end Rows
end Go.Proofs.YtcidgfdiacehmaaDoor
