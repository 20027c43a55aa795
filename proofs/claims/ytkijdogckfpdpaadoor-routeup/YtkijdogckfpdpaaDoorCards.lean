/-
  DERIVED. GIVEN WITH THE SEED: THE CARDS: each row of YtkijdogckfpdpaaDoorRows.lean that lists a variable, with what it lists TIED to the program's text (the seventh form; the later family's looks); each row that meets fmt, with fmt's text TOLD by the authors' own Lean function (tested against real Go, not proved from fmt's source: count such statements apart). THE CARD IS WHAT COUNTS. Prove the row's statement (the work); the ties are given (YtkijdogckfpdpaaDoorTie.lean); close each card by the builder's one call (the guide's Derived/Test/ToyasCard.lean, 'card_holds'). Laid BY PROGRAM, IN A SANDBOX (cutbox-door.mjs). By AI agents, Wed Nov 11 2026. No macro, syntax, notation, axiom, sorry.
-/
import Derived.Test.YtkijdogckfpdpaaDoorRows
import GoSem.ClaimSeven
namespace Go.Proofs.YtkijdogckfpdpaaDoor
namespace Rows

/-- THE TIED CARD OF 'sallyportlaw15.RouteTells'. -/
def routeTellsCard : Claim7 := { stood := { row := routeTellsRow, standIns := [], harness := (true, "997f097184271b6169c0cb3a9c251a00bee65b05a85b294a6f87e35918b2b53f"), looks := false }, kinds := [], alts := [], laidByText := true, laidKinds := [.data], laidTests := true, laidLooks := .later }
def RouteTellsCardSaid : Prop := Claim7.holds Tryd.pinned (.plain (OpenSpec.ofChange routeTellsSpec)) routeTellsCard

/-- THE TIED CARD OF 'sallyportlaw15.RouteUp'. -/
def routeUpCard : Claim7 := { stood := { row := routeUpRow, standIns := [], harness := (true, "997f097184271b6169c0cb3a9c251a00bee65b05a85b294a6f87e35918b2b53f"), looks := false }, kinds := [], alts := [], laidByText := true, laidKinds := [.data], laidTests := true, laidLooks := .later }
def RouteUpCardSaid : Prop := Claim7.holds Tryd.pinned (.plain (OpenSpec.ofChange routeUpSpec)) routeUpCard

/-- THE TIED CARD OF 'sallyportlaw15.RouteQuiet'. -/
def routeQuietCard : Claim7 := { stood := { row := routeQuietRow, standIns := [], harness := (true, "997f097184271b6169c0cb3a9c251a00bee65b05a85b294a6f87e35918b2b53f"), looks := false }, kinds := [], alts := [], laidByText := true, laidKinds := [.data], laidTests := true, laidLooks := .later }
def RouteQuietCardSaid : Prop := Claim7.holds Tryd.pinned (.plain (OpenSpec.ofChange routeQuietSpec)) routeQuietCard

/-- THE TIED CARD OF 'sallyportlaw15.RouteBits'. -/
def routeBitsCard : Claim7 := { stood := { row := routeBitsRow, standIns := [], harness := (true, "997f097184271b6169c0cb3a9c251a00bee65b05a85b294a6f87e35918b2b53f"), looks := false }, kinds := [], alts := [], laidByText := true, laidKinds := [.data], laidTests := true, laidLooks := .later }
def RouteBitsCardSaid : Prop := Claim7.holds Tryd.pinned (.plain (OpenSpec.ofChange routeBitsSpec)) routeBitsCard

/-- THE SECOND FORM's CARD OF 'sallyportlaw15.RouteTells'. -/
def routeTellsUptoCard : Claim7 := { stood := { row := routeTellsUptoRow, standIns := [], harness := (true, "997f097184271b6169c0cb3a9c251a00bee65b05a85b294a6f87e35918b2b53f"), looks := false }, kinds := [], alts := [], laidByText := true, laidKinds := [.data], laidTests := true, laidLooks := .later }
def RouteTellsUptoCardSaid : Prop := Claim7.holds Tryd.pinned (.plain (OpenSpec.upto routeTellsSpec)) routeTellsUptoCard

/-- THE SECOND FORM's CARD OF 'sallyportlaw15.RouteUp'. -/
def routeUpUptoCard : Claim7 := { stood := { row := routeUpUptoRow, standIns := [], harness := (true, "997f097184271b6169c0cb3a9c251a00bee65b05a85b294a6f87e35918b2b53f"), looks := false }, kinds := [], alts := [], laidByText := true, laidKinds := [.data], laidTests := true, laidLooks := .later }
def RouteUpUptoCardSaid : Prop := Claim7.holds Tryd.pinned (.plain (OpenSpec.upto routeUpSpec)) routeUpUptoCard

/-- THE SECOND FORM's CARD OF 'sallyportlaw15.RouteQuiet'. -/
def routeQuietUptoCard : Claim7 := { stood := { row := routeQuietUptoRow, standIns := [], harness := (true, "997f097184271b6169c0cb3a9c251a00bee65b05a85b294a6f87e35918b2b53f"), looks := false }, kinds := [], alts := [], laidByText := true, laidKinds := [.data], laidTests := true, laidLooks := .later }
def RouteQuietUptoCardSaid : Prop := Claim7.holds Tryd.pinned (.plain (OpenSpec.upto routeQuietSpec)) routeQuietUptoCard

/-- THE SECOND FORM's CARD OF 'sallyportlaw15.RouteBits'. -/
def routeBitsUptoCard : Claim7 := { stood := { row := routeBitsUptoRow, standIns := [], harness := (true, "997f097184271b6169c0cb3a9c251a00bee65b05a85b294a6f87e35918b2b53f"), looks := false }, kinds := [], alts := [], laidByText := true, laidKinds := [.data], laidTests := true, laidLooks := .later }
def RouteBitsUptoCardSaid : Prop := Claim7.holds Tryd.pinned (.plain (OpenSpec.upto routeBitsSpec)) routeBitsUptoCard
end Rows
end Go.Proofs.YtkijdogckfpdpaaDoor
