/-
  DERIVED. GIVEN WITH THE SEED: THE CARDS: each row of YtcknllkbeadmlaaDoorRows.lean that lists a variable, with what it lists TIED to the program's text (the seventh form; the later family's looks); each row that meets fmt, with fmt's text TOLD by the authors' own Lean function (tested against real Go, not proved from fmt's source: count such statements apart). THE CARD IS WHAT COUNTS. Prove the row's statement (the work); the ties are given (YtcknllkbeadmlaaDoorTie.lean); close each card by the builder's one call (the guide's Derived/Test/ToyasCard.lean, 'card_holds'). Laid BY PROGRAM, IN A SANDBOX (cutbox-door.mjs). By AI agents, Wed Nov 11 2026. No macro, syntax, notation, axiom, sorry.
-/
import Derived.Test.YtcknllkbeadmlaaDoorRows
import GoSem.ClaimSeven
namespace Go.Proofs.YtcknllkbeadmlaaDoor
namespace Rows

/-- THE TIED CARD OF 'angeluslaw22.UtcTells'. -/
def utcTellsCard : Claim7 := { stood := { row := utcTellsRow, standIns := [], harness := (true, "4adff61b54aac8345feb7c502e14ef75a75b01c7aacf952f94604b724cf580c8"), looks := false }, kinds := [], alts := [], laidByText := true, laidKinds := [.data, .data, .data], laidTests := true, laidLooks := .later }
def UtcTellsCardSaid : Prop := Claim7.holds Tryd.pinned (.plain (OpenSpec.ofChange utcTellsSpec)) utcTellsCard

/-- THE TIED CARD OF 'angeluslaw22.UtcBack'. -/
def utcBackCard : Claim7 := { stood := { row := utcBackRow, standIns := [], harness := (true, "4adff61b54aac8345feb7c502e14ef75a75b01c7aacf952f94604b724cf580c8"), looks := false }, kinds := [], alts := [], laidByText := true, laidKinds := [.data, .data, .data], laidTests := true, laidLooks := .later }
def UtcBackCardSaid : Prop := Claim7.holds Tryd.pinned (.plain (OpenSpec.ofChange utcBackSpec)) utcBackCard

/-- THE TIED CARD OF 'angeluslaw22.UtcLeaps'. -/
def utcLeapsCard : Claim7 := { stood := { row := utcLeapsRow, standIns := [], harness := (true, "4adff61b54aac8345feb7c502e14ef75a75b01c7aacf952f94604b724cf580c8"), looks := false }, kinds := [], alts := [], laidByText := true, laidKinds := [.data, .data, .data], laidTests := true, laidLooks := .later }
def UtcLeapsCardSaid : Prop := Claim7.holds Tryd.pinned (.plain (OpenSpec.ofChange utcLeapsSpec)) utcLeapsCard

/-- THE TIED CARD OF 'angeluslaw22.UtcTexts'. -/
def utcTextsCard : Claim7 := { stood := { row := utcTextsRow, standIns := [], harness := (true, "4adff61b54aac8345feb7c502e14ef75a75b01c7aacf952f94604b724cf580c8"), looks := false }, kinds := [], alts := [], laidByText := true, laidKinds := [.data, .data, .data], laidTests := true, laidLooks := .later }
def UtcTextsCardSaid : Prop := Claim7.holds Tryd.pinned (.plain (OpenSpec.ofChange utcTextsSpec)) utcTextsCard

/-- THE TIED CARD OF 'angeluslaw22.UtcOrder'. -/
def utcOrderCard : Claim7 := { stood := { row := utcOrderRow, standIns := [], harness := (true, "4adff61b54aac8345feb7c502e14ef75a75b01c7aacf952f94604b724cf580c8"), looks := false }, kinds := [], alts := [], laidByText := true, laidKinds := [.data, .data, .data], laidTests := true, laidLooks := .later }
def UtcOrderCardSaid : Prop := Claim7.holds Tryd.pinned (.plain (OpenSpec.ofChange utcOrderSpec)) utcOrderCard

/-- THE TIED CARD OF 'angeluslaw22.UtcDays'. -/
def utcDaysCard : Claim7 := { stood := { row := utcDaysRow, standIns := [], harness := (true, "4adff61b54aac8345feb7c502e14ef75a75b01c7aacf952f94604b724cf580c8"), looks := false }, kinds := [], alts := [], laidByText := true, laidKinds := [.data, .data, .data], laidTests := true, laidLooks := .later }
def UtcDaysCardSaid : Prop := Claim7.holds Tryd.pinned (.plain (OpenSpec.ofChange utcDaysSpec)) utcDaysCard

/-- THE SECOND FORM's CARD OF 'angeluslaw22.UtcTells'. -/
def utcTellsUptoCard : Claim7 := { stood := { row := utcTellsUptoRow, standIns := [], harness := (true, "4adff61b54aac8345feb7c502e14ef75a75b01c7aacf952f94604b724cf580c8"), looks := false }, kinds := [], alts := [], laidByText := true, laidKinds := [.data, .data, .data], laidTests := true, laidLooks := .later }
def UtcTellsUptoCardSaid : Prop := Claim7.holds Tryd.pinned (.plain (OpenSpec.upto utcTellsSpec)) utcTellsUptoCard

/-- THE SECOND FORM's CARD OF 'angeluslaw22.UtcBack'. -/
def utcBackUptoCard : Claim7 := { stood := { row := utcBackUptoRow, standIns := [], harness := (true, "4adff61b54aac8345feb7c502e14ef75a75b01c7aacf952f94604b724cf580c8"), looks := false }, kinds := [], alts := [], laidByText := true, laidKinds := [.data, .data, .data], laidTests := true, laidLooks := .later }
def UtcBackUptoCardSaid : Prop := Claim7.holds Tryd.pinned (.plain (OpenSpec.upto utcBackSpec)) utcBackUptoCard

/-- THE SECOND FORM's CARD OF 'angeluslaw22.UtcLeaps'. -/
def utcLeapsUptoCard : Claim7 := { stood := { row := utcLeapsUptoRow, standIns := [], harness := (true, "4adff61b54aac8345feb7c502e14ef75a75b01c7aacf952f94604b724cf580c8"), looks := false }, kinds := [], alts := [], laidByText := true, laidKinds := [.data, .data, .data], laidTests := true, laidLooks := .later }
def UtcLeapsUptoCardSaid : Prop := Claim7.holds Tryd.pinned (.plain (OpenSpec.upto utcLeapsSpec)) utcLeapsUptoCard

/-- THE SECOND FORM's CARD OF 'angeluslaw22.UtcTexts'. -/
def utcTextsUptoCard : Claim7 := { stood := { row := utcTextsUptoRow, standIns := [], harness := (true, "4adff61b54aac8345feb7c502e14ef75a75b01c7aacf952f94604b724cf580c8"), looks := false }, kinds := [], alts := [], laidByText := true, laidKinds := [.data, .data, .data], laidTests := true, laidLooks := .later }
def UtcTextsUptoCardSaid : Prop := Claim7.holds Tryd.pinned (.plain (OpenSpec.upto utcTextsSpec)) utcTextsUptoCard

/-- THE SECOND FORM's CARD OF 'angeluslaw22.UtcOrder'. -/
def utcOrderUptoCard : Claim7 := { stood := { row := utcOrderUptoRow, standIns := [], harness := (true, "4adff61b54aac8345feb7c502e14ef75a75b01c7aacf952f94604b724cf580c8"), looks := false }, kinds := [], alts := [], laidByText := true, laidKinds := [.data, .data, .data], laidTests := true, laidLooks := .later }
def UtcOrderUptoCardSaid : Prop := Claim7.holds Tryd.pinned (.plain (OpenSpec.upto utcOrderSpec)) utcOrderUptoCard

/-- THE SECOND FORM's CARD OF 'angeluslaw22.UtcDays'. -/
def utcDaysUptoCard : Claim7 := { stood := { row := utcDaysUptoRow, standIns := [], harness := (true, "4adff61b54aac8345feb7c502e14ef75a75b01c7aacf952f94604b724cf580c8"), looks := false }, kinds := [], alts := [], laidByText := true, laidKinds := [.data, .data, .data], laidTests := true, laidLooks := .later }
def UtcDaysUptoCardSaid : Prop := Claim7.holds Tryd.pinned (.plain (OpenSpec.upto utcDaysSpec)) utcDaysUptoCard
end Rows
end Go.Proofs.YtcknllkbeadmlaaDoor
