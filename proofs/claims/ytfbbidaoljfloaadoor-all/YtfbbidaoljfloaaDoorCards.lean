/-
  DERIVED. GIVEN WITH THE SEED: THE CARDS: each row of YtfbbidaoljfloaaDoorRows.lean that lists a variable, with what it lists TIED to the program's text (the seventh form; the later family's looks); each row that meets fmt, with fmt's text TOLD by the authors' own Lean function (tested against real Go, not proved from fmt's source: count such statements apart). THE CARD IS WHAT COUNTS. Prove the row's statement (the work); the ties are given (YtfbbidaoljfloaaDoorTie.lean); close each card by the builder's one call (the guide's Derived/Test/ToyasCard.lean, 'card_holds'). Laid BY PROGRAM, IN A SANDBOX (cutbox-door.mjs). By AI agents, Wed Nov 11 2026. No macro, syntax, notation, axiom, sorry.
-/
import Derived.Test.YtfbbidaoljfloaaDoorRows
import GoSem.ClaimSeven
namespace Go.Proofs.YtfbbidaoljfloaaDoor
namespace Rows

/-- THE TIED CARD OF 'drizzlelaw.Senders'. -/
def sendersCard : Claim7 := { stood := { row := sendersRow, standIns := [], harness := (true, "cbe985aa4d23bd2bf53a0b987854680724bcbd55b10ed7e197f1bab482fc6ee5"), looks := false }, kinds := [], alts := [], laidByText := true, laidKinds := [.data], laidTests := true, laidLooks := .later }
def SendersCardSaid : Prop := Claim7.holds Tryd.pinned (.plain (OpenSpec.ofChange sendersSpec)) sendersCard

/-- THE TIED CARD OF 'drizzlekeep.Whole'. -/
def wholeCard : Claim7 := { stood := { row := wholeRow, standIns := [], harness := (true, "cbe985aa4d23bd2bf53a0b987854680724bcbd55b10ed7e197f1bab482fc6ee5"), looks := false }, kinds := [], alts := [], laidByText := true, laidKinds := [.data], laidTests := true, laidLooks := .later }
def WholeCardSaid : Prop := Claim7.holds Tryd.pinned (.plain (OpenSpec.ofChange wholeSpec)) wholeCard

/-- THE TIED CARD OF 'drizzlekeep.Enough'. -/
def enoughCard : Claim7 := { stood := { row := enoughRow, standIns := [], harness := (true, "cbe985aa4d23bd2bf53a0b987854680724bcbd55b10ed7e197f1bab482fc6ee5"), looks := false }, kinds := [], alts := [], laidByText := true, laidKinds := [.data], laidTests := true, laidLooks := .later }
def EnoughCardSaid : Prop := Claim7.holds Tryd.pinned (.plain (OpenSpec.ofChange enoughSpec)) enoughCard

/-- THE TIED CARD OF 'drizzlekeep.Deaf'. -/
def deafCard : Claim7 := { stood := { row := deafRow, standIns := [], harness := (true, "cbe985aa4d23bd2bf53a0b987854680724bcbd55b10ed7e197f1bab482fc6ee5"), looks := false }, kinds := [], alts := [], laidByText := true, laidKinds := [.data], laidTests := true, laidLooks := .later }
def DeafCardSaid : Prop := Claim7.holds Tryd.pinned (.plain (OpenSpec.ofChange deafSpec)) deafCard

/-- THE TIED CARD OF 'drizzlekeep.Stale'. -/
def staleCard : Claim7 := { stood := { row := staleRow, standIns := [], harness := (true, "cbe985aa4d23bd2bf53a0b987854680724bcbd55b10ed7e197f1bab482fc6ee5"), looks := false }, kinds := [], alts := [], laidByText := true, laidKinds := [.data], laidTests := true, laidLooks := .later }
def StaleCardSaid : Prop := Claim7.holds Tryd.pinned (.plain (OpenSpec.ofChange staleSpec)) staleCard

/-- THE TIED CARD OF 'drizzlekeep.Posted'. -/
def postedCard : Claim7 := { stood := { row := postedRow, standIns := [], harness := (true, "cbe985aa4d23bd2bf53a0b987854680724bcbd55b10ed7e197f1bab482fc6ee5"), looks := false }, kinds := [], alts := [], laidByText := true, laidKinds := [.data], laidTests := true, laidLooks := .later }
def PostedCardSaid : Prop := Claim7.holds Tryd.pinned (.plain (OpenSpec.ofChange postedSpec)) postedCard

/-- THE TIED CARD OF 'drizzlekeep.Once'. -/
def onceCard : Claim7 := { stood := { row := onceRow, standIns := [], harness := (true, "cbe985aa4d23bd2bf53a0b987854680724bcbd55b10ed7e197f1bab482fc6ee5"), looks := false }, kinds := [], alts := [], laidByText := true, laidKinds := [.data], laidTests := true, laidLooks := .later }
def OnceCardSaid : Prop := Claim7.holds Tryd.pinned (.plain (OpenSpec.ofChange onceSpec)) onceCard

/-- THE TIED CARD OF 'drizzlekeep.Fair'. -/
def fairCard : Claim7 := { stood := { row := fairRow, standIns := [], harness := (true, "cbe985aa4d23bd2bf53a0b987854680724bcbd55b10ed7e197f1bab482fc6ee5"), looks := false }, kinds := [], alts := [], laidByText := true, laidKinds := [.data], laidTests := true, laidLooks := .later }
def FairCardSaid : Prop := Claim7.holds Tryd.pinned (.plain (OpenSpec.ofChange fairSpec)) fairCard

/-- THE TIED CARD OF 'drizzlekeep.Apart'. -/
def apartCard : Claim7 := { stood := { row := apartRow, standIns := [], harness := (true, "cbe985aa4d23bd2bf53a0b987854680724bcbd55b10ed7e197f1bab482fc6ee5"), looks := false }, kinds := [], alts := [], laidByText := true, laidKinds := [.data], laidTests := true, laidLooks := .later }
def ApartCardSaid : Prop := Claim7.holds Tryd.pinned (.plain (OpenSpec.ofChange apartSpec)) apartCard

/-- THE TIED CARD OF 'drizzlelaw.All'. -/
def allCard : Claim7 := { stood := { row := allRow, standIns := [], harness := (true, "cbe985aa4d23bd2bf53a0b987854680724bcbd55b10ed7e197f1bab482fc6ee5"), looks := false }, kinds := [], alts := [], laidByText := true, laidKinds := [.data], laidTests := true, laidLooks := .later }
def AllCardSaid : Prop := Claim7.holds Tryd.pinned (.plain (OpenSpec.ofChange allSpec)) allCard

/-- THE SECOND FORM's CARD OF 'drizzlelaw.Senders'. -/
def sendersUptoCard : Claim7 := { stood := { row := sendersUptoRow, standIns := [], harness := (true, "cbe985aa4d23bd2bf53a0b987854680724bcbd55b10ed7e197f1bab482fc6ee5"), looks := false }, kinds := [], alts := [], laidByText := true, laidKinds := [.data], laidTests := true, laidLooks := .later }
def SendersUptoCardSaid : Prop := Claim7.holds Tryd.pinned (.plain (OpenSpec.upto sendersSpec)) sendersUptoCard

/-- THE SECOND FORM's CARD OF 'drizzlekeep.Whole'. -/
def wholeUptoCard : Claim7 := { stood := { row := wholeUptoRow, standIns := [], harness := (true, "cbe985aa4d23bd2bf53a0b987854680724bcbd55b10ed7e197f1bab482fc6ee5"), looks := false }, kinds := [], alts := [], laidByText := true, laidKinds := [.data], laidTests := true, laidLooks := .later }
def WholeUptoCardSaid : Prop := Claim7.holds Tryd.pinned (.plain (OpenSpec.upto wholeSpec)) wholeUptoCard

/-- THE SECOND FORM's CARD OF 'drizzlekeep.Enough'. -/
def enoughUptoCard : Claim7 := { stood := { row := enoughUptoRow, standIns := [], harness := (true, "cbe985aa4d23bd2bf53a0b987854680724bcbd55b10ed7e197f1bab482fc6ee5"), looks := false }, kinds := [], alts := [], laidByText := true, laidKinds := [.data], laidTests := true, laidLooks := .later }
def EnoughUptoCardSaid : Prop := Claim7.holds Tryd.pinned (.plain (OpenSpec.upto enoughSpec)) enoughUptoCard

/-- THE SECOND FORM's CARD OF 'drizzlekeep.Deaf'. -/
def deafUptoCard : Claim7 := { stood := { row := deafUptoRow, standIns := [], harness := (true, "cbe985aa4d23bd2bf53a0b987854680724bcbd55b10ed7e197f1bab482fc6ee5"), looks := false }, kinds := [], alts := [], laidByText := true, laidKinds := [.data], laidTests := true, laidLooks := .later }
def DeafUptoCardSaid : Prop := Claim7.holds Tryd.pinned (.plain (OpenSpec.upto deafSpec)) deafUptoCard

/-- THE SECOND FORM's CARD OF 'drizzlekeep.Stale'. -/
def staleUptoCard : Claim7 := { stood := { row := staleUptoRow, standIns := [], harness := (true, "cbe985aa4d23bd2bf53a0b987854680724bcbd55b10ed7e197f1bab482fc6ee5"), looks := false }, kinds := [], alts := [], laidByText := true, laidKinds := [.data], laidTests := true, laidLooks := .later }
def StaleUptoCardSaid : Prop := Claim7.holds Tryd.pinned (.plain (OpenSpec.upto staleSpec)) staleUptoCard

/-- THE SECOND FORM's CARD OF 'drizzlekeep.Posted'. -/
def postedUptoCard : Claim7 := { stood := { row := postedUptoRow, standIns := [], harness := (true, "cbe985aa4d23bd2bf53a0b987854680724bcbd55b10ed7e197f1bab482fc6ee5"), looks := false }, kinds := [], alts := [], laidByText := true, laidKinds := [.data], laidTests := true, laidLooks := .later }
def PostedUptoCardSaid : Prop := Claim7.holds Tryd.pinned (.plain (OpenSpec.upto postedSpec)) postedUptoCard

/-- THE SECOND FORM's CARD OF 'drizzlekeep.Once'. -/
def onceUptoCard : Claim7 := { stood := { row := onceUptoRow, standIns := [], harness := (true, "cbe985aa4d23bd2bf53a0b987854680724bcbd55b10ed7e197f1bab482fc6ee5"), looks := false }, kinds := [], alts := [], laidByText := true, laidKinds := [.data], laidTests := true, laidLooks := .later }
def OnceUptoCardSaid : Prop := Claim7.holds Tryd.pinned (.plain (OpenSpec.upto onceSpec)) onceUptoCard

/-- THE SECOND FORM's CARD OF 'drizzlekeep.Fair'. -/
def fairUptoCard : Claim7 := { stood := { row := fairUptoRow, standIns := [], harness := (true, "cbe985aa4d23bd2bf53a0b987854680724bcbd55b10ed7e197f1bab482fc6ee5"), looks := false }, kinds := [], alts := [], laidByText := true, laidKinds := [.data], laidTests := true, laidLooks := .later }
def FairUptoCardSaid : Prop := Claim7.holds Tryd.pinned (.plain (OpenSpec.upto fairSpec)) fairUptoCard

/-- THE SECOND FORM's CARD OF 'drizzlekeep.Apart'. -/
def apartUptoCard : Claim7 := { stood := { row := apartUptoRow, standIns := [], harness := (true, "cbe985aa4d23bd2bf53a0b987854680724bcbd55b10ed7e197f1bab482fc6ee5"), looks := false }, kinds := [], alts := [], laidByText := true, laidKinds := [.data], laidTests := true, laidLooks := .later }
def ApartUptoCardSaid : Prop := Claim7.holds Tryd.pinned (.plain (OpenSpec.upto apartSpec)) apartUptoCard

/-- THE SECOND FORM's CARD OF 'drizzlelaw.All'. -/
def allUptoCard : Claim7 := { stood := { row := allUptoRow, standIns := [], harness := (true, "cbe985aa4d23bd2bf53a0b987854680724bcbd55b10ed7e197f1bab482fc6ee5"), looks := false }, kinds := [], alts := [], laidByText := true, laidKinds := [.data], laidTests := true, laidLooks := .later }
def AllUptoCardSaid : Prop := Claim7.holds Tryd.pinned (.plain (OpenSpec.upto allSpec)) allUptoCard
end Rows
end Go.Proofs.YtfbbidaoljfloaaDoor
