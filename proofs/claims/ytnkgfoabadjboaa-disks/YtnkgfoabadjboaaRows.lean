/-
  No cell of these rows narrows 'for every input' (looked for: loops, veiled, ifaces, maps, wideKeys, modest, calm, conditions, laid).
  DERIVED. THE GIVEN ROWS OF THIS SEAT. 12 by the template 'for every input the law returns true; each argument reads behind the call as it read before'; 0 by the template 'total and deterministic' (their statements: YtnkgfoabadjboaaTotals.lean).
  GIVEN WITH THE SEED: the statements are not yours to turn. If you find one false, say at which input.
  Laid BY PROGRAM, IN A SANDBOX (cutbox-rows.mjs): the forced cells as the released guide's own fill.sh prints them over the translation 8456f3f6bed8b3ff… (all of the seat's roots in one cut). By AI agents, Wed Nov 11 2026. No macro, syntax, notation, axiom, sorry.
-/
import Derived.Test.YtnkgfoabadjboaaChecked
import GoSem.Claim
import GoSem.ClaimJoined
import GoSem.ClaimMapViews
import Derived.JoinedTies
import Derived.KernelRfl
namespace Go.Proofs.Ytnkgfoabadjboaa
/- THE CELL 'sum', in the pinned program and in every row, IS THE sha256 OF THE DUMP (.gsa) THAT YtnkgfoabadjboaaProg.lean LOADS. Nothing in Lean hashes anything: it is a label: what it is worth is what the hold of that sum in a sandbox is worth. -/
noncomputable def Try.pinned : Pinned := { name := "ytnkgfoabadjboaa", sum := "8456f3f6bed8b3ff539f54f30f51ebf761e2391dee07515823daafda30543c58", checked := Try.checked }
namespace Rows
def none {H : Type} : Left H := { results := [], args := [] }

/-- 'tutorlaw.Sums': WHATEVER THE INPUT: true; the input reads as it did. -/
def sumsSpec : ChangeSpec := { name := "sums", fn := fun _ => fun
  | [d1, d2] => { results := [.lit (.bool true)], args := [d1, d2] }
  | _ => none }
def sumsRow : OpenClaim := { program := "ytnkgfoabadjboaa", sum := "8456f3f6bed8b3ff539f54f30f51ebf761e2391dee07515823daafda30543c58", func := "tutor/tutorlaw.Sums", spec := "sums", apart := false }
def SumsSaid : Prop := sumsRow.holds Try.pinned (OpenSpec.ofChange sumsSpec)

/-- ITS FALSE NEIGHBOUR: 'it returns false'. Refute it at one input. -/
def sumsWrong : ChangeSpec := { name := "sums", fn := fun _ => fun
  | [d1, d2] => { results := [.lit (.bool false)], args := [d1, d2] }
  | _ => none }
def SumsWrongFalsely : Prop := sumsRow.holds Try.pinned (OpenSpec.ofChange sumsWrong)

/-- 'tutorlaw.Products': WHATEVER THE INPUT: true; the input reads as it did. -/
def productsSpec : ChangeSpec := { name := "products", fn := fun _ => fun
  | [d1, d2] => { results := [.lit (.bool true)], args := [d1, d2] }
  | _ => none }
def productsRow : OpenClaim := { program := "ytnkgfoabadjboaa", sum := "8456f3f6bed8b3ff539f54f30f51ebf761e2391dee07515823daafda30543c58", func := "tutor/tutorlaw.Products", spec := "products", apart := false }
def ProductsSaid : Prop := productsRow.holds Try.pinned (OpenSpec.ofChange productsSpec)

/-- ITS FALSE NEIGHBOUR: 'it returns false'. Refute it at one input. -/
def productsWrong : ChangeSpec := { name := "products", fn := fun _ => fun
  | [d1, d2] => { results := [.lit (.bool false)], args := [d1, d2] }
  | _ => none }
def ProductsWrongFalsely : Prop := productsRow.holds Try.pinned (OpenSpec.ofChange productsWrong)

/-- 'tutorlaw.Roots': WHATEVER THE INPUT: true; the input reads as it did. -/
def rootsSpec : ChangeSpec := { name := "roots", fn := fun _ => fun
  | [d1, d2, d3] => { results := [.lit (.bool true)], args := [d1, d2, d3] }
  | _ => none }
def rootsRow : OpenClaim := { program := "ytnkgfoabadjboaa", sum := "8456f3f6bed8b3ff539f54f30f51ebf761e2391dee07515823daafda30543c58", func := "tutor/tutorlaw.Roots", spec := "roots", apart := false }
def RootsSaid : Prop := rootsRow.holds Try.pinned (OpenSpec.ofChange rootsSpec)

/-- ITS FALSE NEIGHBOUR: 'it returns false'. Refute it at one input. -/
def rootsWrong : ChangeSpec := { name := "roots", fn := fun _ => fun
  | [d1, d2, d3] => { results := [.lit (.bool false)], args := [d1, d2, d3] }
  | _ => none }
def RootsWrongFalsely : Prop := rootsRow.holds Try.pinned (OpenSpec.ofChange rootsWrong)

/-- 'tutorlaw.Curves': WHATEVER THE INPUT: true; the input reads as it did. -/
def curvesSpec : ChangeSpec := { name := "curves", fn := fun _ => fun
  | [d] => { results := [.lit (.bool true)], args := [d] }
  | _ => none }
def curvesRow : OpenClaim := { program := "ytnkgfoabadjboaa", sum := "8456f3f6bed8b3ff539f54f30f51ebf761e2391dee07515823daafda30543c58", func := "tutor/tutorlaw.Curves", spec := "curves", apart := false }
def CurvesSaid : Prop := curvesRow.holds Try.pinned (OpenSpec.ofChange curvesSpec)

/-- ITS FALSE NEIGHBOUR: 'it returns false'. Refute it at one input. -/
def curvesWrong : ChangeSpec := { name := "curves", fn := fun _ => fun
  | [d] => { results := [.lit (.bool false)], args := [d] }
  | _ => none }
def CurvesWrongFalsely : Prop := curvesRow.holds Try.pinned (OpenSpec.ofChange curvesWrong)

/-- 'tutorkeep.Whole': WHATEVER THE INPUT: true; the input reads as it did. -/
def wholeSpec : ChangeSpec := { name := "whole", fn := fun _ => fun
  | [d1, d2] => { results := [.lit (.bool true)], args := [d1, d2] }
  | _ => none }
def wholeRow : OpenClaim := { program := "ytnkgfoabadjboaa", sum := "8456f3f6bed8b3ff539f54f30f51ebf761e2391dee07515823daafda30543c58", func := "tutor/tutorkeep.Whole", spec := "whole", apart := false }
def WholeSaid : Prop := wholeRow.holds Try.pinned (OpenSpec.ofChange wholeSpec)

/-- ITS FALSE NEIGHBOUR: 'it returns false'. Refute it at one input. -/
def wholeWrong : ChangeSpec := { name := "whole", fn := fun _ => fun
  | [d1, d2] => { results := [.lit (.bool false)], args := [d1, d2] }
  | _ => none }
def WholeWrongFalsely : Prop := wholeRow.holds Try.pinned (OpenSpec.ofChange wholeWrong)

/-- 'tutorkeep.Order': WHATEVER THE INPUT: true; the input reads as it did. -/
def orderSpec : ChangeSpec := { name := "order", fn := fun _ => fun
  | [d1, d2, d3] => { results := [.lit (.bool true)], args := [d1, d2, d3] }
  | _ => none }
def orderRow : OpenClaim := { program := "ytnkgfoabadjboaa", sum := "8456f3f6bed8b3ff539f54f30f51ebf761e2391dee07515823daafda30543c58", func := "tutor/tutorkeep.Order", spec := "order", apart := false }
def OrderSaid : Prop := orderRow.holds Try.pinned (OpenSpec.ofChange orderSpec)

/-- ITS FALSE NEIGHBOUR: 'it returns false'. Refute it at one input. -/
def orderWrong : ChangeSpec := { name := "order", fn := fun _ => fun
  | [d1, d2, d3] => { results := [.lit (.bool false)], args := [d1, d2, d3] }
  | _ => none }
def OrderWrongFalsely : Prop := orderRow.holds Try.pinned (OpenSpec.ofChange orderWrong)

/-- 'tutorkeep.Near': WHATEVER THE INPUT: true; the input reads as it did. -/
def nearSpec : ChangeSpec := { name := "near", fn := fun _ => fun
  | [d1, d2] => { results := [.lit (.bool true)], args := [d1, d2] }
  | _ => none }
def nearRow : OpenClaim := { program := "ytnkgfoabadjboaa", sum := "8456f3f6bed8b3ff539f54f30f51ebf761e2391dee07515823daafda30543c58", func := "tutor/tutorkeep.Near", spec := "near", apart := false }
def NearSaid : Prop := nearRow.holds Try.pinned (OpenSpec.ofChange nearSpec)

/-- ITS FALSE NEIGHBOUR: 'it returns false'. Refute it at one input. -/
def nearWrong : ChangeSpec := { name := "near", fn := fun _ => fun
  | [d1, d2] => { results := [.lit (.bool false)], args := [d1, d2] }
  | _ => none }
def NearWrongFalsely : Prop := nearRow.holds Try.pinned (OpenSpec.ofChange nearWrong)

/-- 'tutorlaw.Disks': WHATEVER THE INPUT: true; the input reads as it did. -/
def disksSpec : ChangeSpec := { name := "disks", fn := fun _ => fun
  | [d] => { results := [.lit (.bool true)], args := [d] }
  | _ => none }
def disksRow : OpenClaim := { program := "ytnkgfoabadjboaa", sum := "8456f3f6bed8b3ff539f54f30f51ebf761e2391dee07515823daafda30543c58", func := "tutor/tutorlaw.Disks", spec := "disks", unfollowed := true, recurses := true, apart := false }
def DisksSaid : Prop := disksRow.holds Try.pinned (OpenSpec.ofChange disksSpec)

/-- ITS FALSE NEIGHBOUR: 'it returns false'. Refute it at one input. -/
def disksWrong : ChangeSpec := { name := "disks", fn := fun _ => fun
  | [d] => { results := [.lit (.bool false)], args := [d] }
  | _ => none }
def DisksWrongFalsely : Prop := disksRow.holds Try.pinned (OpenSpec.ofChange disksWrong)

/-- 'tutorlaw.Checks': WHATEVER THE INPUT: true; the input reads as it did. -/
def checksSpec : ChangeSpec := { name := "checks", fn := fun _ => fun
  | [d1, d2] => { results := [.lit (.bool true)], args := [d1, d2] }
  | _ => none }
def checksRow : OpenClaim := { program := "ytnkgfoabadjboaa", sum := "8456f3f6bed8b3ff539f54f30f51ebf761e2391dee07515823daafda30543c58", func := "tutor/tutorlaw.Checks", spec := "checks", apart := false }
def ChecksSaid : Prop := checksRow.holds Try.pinned (OpenSpec.ofChange checksSpec)

/-- ITS FALSE NEIGHBOUR: 'it returns false'. Refute it at one input. -/
def checksWrong : ChangeSpec := { name := "checks", fn := fun _ => fun
  | [d1, d2] => { results := [.lit (.bool false)], args := [d1, d2] }
  | _ => none }
def ChecksWrongFalsely : Prop := checksRow.holds Try.pinned (OpenSpec.ofChange checksWrong)

/-- 'tutorlaw.Picks': WHATEVER THE INPUT: true; the input reads as it did. -/
def picksSpec : ChangeSpec := { name := "picks", fn := fun _ => fun
  | [d1, d2, d3] => { results := [.lit (.bool true)], args := [d1, d2, d3] }
  | _ => none }
def picksRow : OpenClaim := { program := "ytnkgfoabadjboaa", sum := "8456f3f6bed8b3ff539f54f30f51ebf761e2391dee07515823daafda30543c58", func := "tutor/tutorlaw.Picks", spec := "picks", apart := false }
def PicksSaid : Prop := picksRow.holds Try.pinned (OpenSpec.ofChange picksSpec)

/-- ITS FALSE NEIGHBOUR: 'it returns false'. Refute it at one input. -/
def picksWrong : ChangeSpec := { name := "picks", fn := fun _ => fun
  | [d1, d2, d3] => { results := [.lit (.bool false)], args := [d1, d2, d3] }
  | _ => none }
def PicksWrongFalsely : Prop := picksRow.holds Try.pinned (OpenSpec.ofChange picksWrong)

/-- 'tutorkeep.Fair': WHATEVER THE INPUT: true; the input reads as it did. -/
def fairSpec : ChangeSpec := { name := "fair", fn := fun _ => fun
  | [d1, d2, d3] => { results := [.lit (.bool true)], args := [d1, d2, d3] }
  | _ => none }
def fairRow : OpenClaim := { program := "ytnkgfoabadjboaa", sum := "8456f3f6bed8b3ff539f54f30f51ebf761e2391dee07515823daafda30543c58", func := "tutor/tutorkeep.Fair", spec := "fair", apart := false }
def FairSaid : Prop := fairRow.holds Try.pinned (OpenSpec.ofChange fairSpec)

/-- ITS FALSE NEIGHBOUR: 'it returns false'. Refute it at one input. -/
def fairWrong : ChangeSpec := { name := "fair", fn := fun _ => fun
  | [d1, d2, d3] => { results := [.lit (.bool false)], args := [d1, d2, d3] }
  | _ => none }
def FairWrongFalsely : Prop := fairRow.holds Try.pinned (OpenSpec.ofChange fairWrong)

/-- 'tutorlaw.Rates': WHATEVER THE INPUT: true; the input reads as it did. -/
def ratesSpec : ChangeSpec := { name := "rates", fn := fun _ => fun
  | [d1, d2] => { results := [.lit (.bool true)], args := [d1, d2] }
  | _ => none }
def ratesRow : OpenClaim := { program := "ytnkgfoabadjboaa", sum := "8456f3f6bed8b3ff539f54f30f51ebf761e2391dee07515823daafda30543c58", func := "tutor/tutorlaw.Rates", spec := "rates", apart := false }
def RatesSaid : Prop := ratesRow.holds Try.pinned (OpenSpec.ofChange ratesSpec)

/-- ITS FALSE NEIGHBOUR: 'it returns false'. Refute it at one input. -/
def ratesWrong : ChangeSpec := { name := "rates", fn := fun _ => fun
  | [d1, d2] => { results := [.lit (.bool false)], args := [d1, d2] }
  | _ => none }
def RatesWrongFalsely : Prop := ratesRow.holds Try.pinned (OpenSpec.ofChange ratesWrong)

/- THE SECOND FORM. 'bulk': how many values and letters a reading holds, each counted each time it is reached (what is shared counts as often as it is met; a slice's spare places count too). A statement '..UptoSaid' is the law's where the arguments, and the package variables that the reading takes, are together of bulk at most 1048576: NARROWER than '..Said'. Prove '..Said' where nothing that the law and all that it calls make is longer than what came in: it says more and counts as full. Else prove '..UptoSaid'. A law counts once. -/
mutual
def uptoBulk {H : Type} : DataW H → Nat
  | .lit (.string bytes) => bytes.length + 1
  | .lit _ => 1
  | .nil => 1
  | .ptr d => uptoBulk d + 1
  | .slice elems spare => uptoBulkAll elems + uptoBulkAll spare + 1
  | .agg parts => uptoBulkAll parts + 1
  | .iface _ d => uptoBulk d + 1
  | .map entries => uptoBulkEntries entries + 1
  | .held _ => 1
def uptoBulkAll {H : Type} : List (DataW H) → Nat
  | [] => 0
  | d :: r => uptoBulk d + uptoBulkAll r
def uptoBulkEntries {H : Type} : List (Lit × DataW H) → Nat
  | [] => 0
  | x :: r => uptoBulkEntry x + uptoBulkEntries r
def uptoBulkEntry {H : Type} : Lit × DataW H → Nat
  | (.string bytes, d) => bytes.length + uptoBulk d + 1
  | (_, d) => uptoBulk d + 1
 end
def uptoSmall : (H : Type) → List (DataW H) → Bool := fun _ ds => decide (uptoBulkAll ds ≤ 1048576)
def OpenSpec.upto (s : _root_.Go.ChangeSpec) : _root_.Go.OpenSpec := { _root_.Go.OpenSpec.ofChange s with cond := some uptoSmall }

/-- 'tutorlaw.Sums', WHERE WHAT IT READS IS OF BULK AT MOST 1048576: true; the input reads as it did. -/
def sumsUptoRow : OpenClaim := { program := "ytnkgfoabadjboaa", sum := "8456f3f6bed8b3ff539f54f30f51ebf761e2391dee07515823daafda30543c58", func := "tutor/tutorlaw.Sums", spec := "sums", apart := false, narrowed := true }
def SumsUptoSaid : Prop := sumsUptoRow.holds Try.pinned (OpenSpec.upto sumsSpec)

/-- 'tutorlaw.Products', WHERE WHAT IT READS IS OF BULK AT MOST 1048576: true; the input reads as it did. -/
def productsUptoRow : OpenClaim := { program := "ytnkgfoabadjboaa", sum := "8456f3f6bed8b3ff539f54f30f51ebf761e2391dee07515823daafda30543c58", func := "tutor/tutorlaw.Products", spec := "products", apart := false, narrowed := true }
def ProductsUptoSaid : Prop := productsUptoRow.holds Try.pinned (OpenSpec.upto productsSpec)

/-- 'tutorlaw.Roots', WHERE WHAT IT READS IS OF BULK AT MOST 1048576: true; the input reads as it did. -/
def rootsUptoRow : OpenClaim := { program := "ytnkgfoabadjboaa", sum := "8456f3f6bed8b3ff539f54f30f51ebf761e2391dee07515823daafda30543c58", func := "tutor/tutorlaw.Roots", spec := "roots", apart := false, narrowed := true }
def RootsUptoSaid : Prop := rootsUptoRow.holds Try.pinned (OpenSpec.upto rootsSpec)

/-- 'tutorlaw.Curves', WHERE WHAT IT READS IS OF BULK AT MOST 1048576: true; the input reads as it did. -/
def curvesUptoRow : OpenClaim := { program := "ytnkgfoabadjboaa", sum := "8456f3f6bed8b3ff539f54f30f51ebf761e2391dee07515823daafda30543c58", func := "tutor/tutorlaw.Curves", spec := "curves", apart := false, narrowed := true }
def CurvesUptoSaid : Prop := curvesUptoRow.holds Try.pinned (OpenSpec.upto curvesSpec)

/-- 'tutorkeep.Whole', WHERE WHAT IT READS IS OF BULK AT MOST 1048576: true; the input reads as it did. -/
def wholeUptoRow : OpenClaim := { program := "ytnkgfoabadjboaa", sum := "8456f3f6bed8b3ff539f54f30f51ebf761e2391dee07515823daafda30543c58", func := "tutor/tutorkeep.Whole", spec := "whole", apart := false, narrowed := true }
def WholeUptoSaid : Prop := wholeUptoRow.holds Try.pinned (OpenSpec.upto wholeSpec)

/-- 'tutorkeep.Order', WHERE WHAT IT READS IS OF BULK AT MOST 1048576: true; the input reads as it did. -/
def orderUptoRow : OpenClaim := { program := "ytnkgfoabadjboaa", sum := "8456f3f6bed8b3ff539f54f30f51ebf761e2391dee07515823daafda30543c58", func := "tutor/tutorkeep.Order", spec := "order", apart := false, narrowed := true }
def OrderUptoSaid : Prop := orderUptoRow.holds Try.pinned (OpenSpec.upto orderSpec)

/-- 'tutorkeep.Near', WHERE WHAT IT READS IS OF BULK AT MOST 1048576: true; the input reads as it did. -/
def nearUptoRow : OpenClaim := { program := "ytnkgfoabadjboaa", sum := "8456f3f6bed8b3ff539f54f30f51ebf761e2391dee07515823daafda30543c58", func := "tutor/tutorkeep.Near", spec := "near", apart := false, narrowed := true }
def NearUptoSaid : Prop := nearUptoRow.holds Try.pinned (OpenSpec.upto nearSpec)

/-- 'tutorlaw.Disks', WHERE WHAT IT READS IS OF BULK AT MOST 1048576: true; the input reads as it did. -/
def disksUptoRow : OpenClaim := { program := "ytnkgfoabadjboaa", sum := "8456f3f6bed8b3ff539f54f30f51ebf761e2391dee07515823daafda30543c58", func := "tutor/tutorlaw.Disks", spec := "disks", unfollowed := true, recurses := true, apart := false, narrowed := true }
def DisksUptoSaid : Prop := disksUptoRow.holds Try.pinned (OpenSpec.upto disksSpec)

/-- 'tutorlaw.Checks', WHERE WHAT IT READS IS OF BULK AT MOST 1048576: true; the input reads as it did. -/
def checksUptoRow : OpenClaim := { program := "ytnkgfoabadjboaa", sum := "8456f3f6bed8b3ff539f54f30f51ebf761e2391dee07515823daafda30543c58", func := "tutor/tutorlaw.Checks", spec := "checks", apart := false, narrowed := true }
def ChecksUptoSaid : Prop := checksUptoRow.holds Try.pinned (OpenSpec.upto checksSpec)

/-- 'tutorlaw.Picks', WHERE WHAT IT READS IS OF BULK AT MOST 1048576: true; the input reads as it did. -/
def picksUptoRow : OpenClaim := { program := "ytnkgfoabadjboaa", sum := "8456f3f6bed8b3ff539f54f30f51ebf761e2391dee07515823daafda30543c58", func := "tutor/tutorlaw.Picks", spec := "picks", apart := false, narrowed := true }
def PicksUptoSaid : Prop := picksUptoRow.holds Try.pinned (OpenSpec.upto picksSpec)

/-- 'tutorkeep.Fair', WHERE WHAT IT READS IS OF BULK AT MOST 1048576: true; the input reads as it did. -/
def fairUptoRow : OpenClaim := { program := "ytnkgfoabadjboaa", sum := "8456f3f6bed8b3ff539f54f30f51ebf761e2391dee07515823daafda30543c58", func := "tutor/tutorkeep.Fair", spec := "fair", apart := false, narrowed := true }
def FairUptoSaid : Prop := fairUptoRow.holds Try.pinned (OpenSpec.upto fairSpec)

/-- 'tutorlaw.Rates', WHERE WHAT IT READS IS OF BULK AT MOST 1048576: true; the input reads as it did. -/
def ratesUptoRow : OpenClaim := { program := "ytnkgfoabadjboaa", sum := "8456f3f6bed8b3ff539f54f30f51ebf761e2391dee07515823daafda30543c58", func := "tutor/tutorlaw.Rates", spec := "rates", apart := false, narrowed := true }
def RatesUptoSaid : Prop := ratesUptoRow.holds Try.pinned (OpenSpec.upto ratesSpec)

end Rows
end Go.Proofs.Ytnkgfoabadjboaa
