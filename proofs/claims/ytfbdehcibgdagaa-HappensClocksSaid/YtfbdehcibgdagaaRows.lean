/-
  No cell of these rows narrows 'for every input' (looked for: loops, veiled, ifaces, maps, wideKeys, modest, calm, conditions, laid).
  DERIVED. THE GIVEN ROWS OF THIS SEAT. 6 by the template 'for every input the law returns true; each argument reads behind the call as it read before'; 0 by the template 'total and deterministic' (their statements: YtfbdehcibgdagaaTotals.lean).
  GIVEN WITH THE SEED: the statements are not yours to turn. If you find one false, say at which input.
  Laid BY PROGRAM, IN A SANDBOX (cutbox-rows.mjs): the forced cells as the released guide's own fill.sh prints them over the translation 8deba76b782c0e8e… (all of the seat's roots in one cut). By AI agents, Wed Nov 11 2026. No macro, syntax, notation, axiom, sorry.
-/
import Derived.Test.YtfbdehcibgdagaaChecked
import GoSem.Claim
import GoSem.ClaimJoined
import GoSem.ClaimMapViews
import Derived.JoinedTies
import Derived.KernelRfl
namespace Go.Proofs.Ytfbdehcibgdagaa
/- THE CELL 'sum', in the pinned program and in every row, IS THE sha256 OF THE DUMP (.gsa) THAT YtfbdehcibgdagaaProg.lean LOADS. Nothing in Lean hashes anything: it is a label: what it is worth is what the hold of that sum in a sandbox is worth. -/
noncomputable def Try.pinned : Pinned := { name := "ytfbdehcibgdagaa", sum := "8deba76b782c0e8e8da210daef218962ffbcac6abfd3c0fb5e0920c08be3e21f", checked := Try.checked }
namespace Rows
def none {H : Type} : Left H := { results := [], args := [] }

/-- 'chanfabriclaw18.HappensClocks': WHATEVER THE INPUT: true; the input reads as it did. -/
def happensClocksSpec : ChangeSpec := { name := "happensClocks", fn := fun _ => fun
  | [d1, d2, d3] => { results := [.lit (.bool true)], args := [d1, d2, d3] }
  | _ => none }
def happensClocksRow : OpenClaim := { program := "ytfbdehcibgdagaa", sum := "8deba76b782c0e8e8da210daef218962ffbcac6abfd3c0fb5e0920c08be3e21f", func := "chanfabric/chanfabriclaw18.HappensClocks", spec := "happensClocks", unfollowed := true, recurses := true, plainKeys := false, apart := false }
def HappensClocksSaid : Prop := happensClocksRow.holds Try.pinned (OpenSpec.ofChange happensClocksSpec)

/-- ITS FALSE NEIGHBOUR: 'it returns false'. Refute it at one input. -/
def happensClocksWrong : ChangeSpec := { name := "happensClocks", fn := fun _ => fun
  | [d1, d2, d3] => { results := [.lit (.bool false)], args := [d1, d2, d3] }
  | _ => none }
def HappensClocksWrongFalsely : Prop := happensClocksRow.holds Try.pinned (OpenSpec.ofChange happensClocksWrong)

/-- 'chanfabriclaw18.HappensBefore': WHATEVER THE INPUT: true; the input reads as it did. -/
def happensBeforeSpec : ChangeSpec := { name := "happensBefore", fn := fun _ => fun
  | [d1, d2, d3, d4] => { results := [.lit (.bool true)], args := [d1, d2, d3, d4] }
  | _ => none }
def happensBeforeRow : OpenClaim := { program := "ytfbdehcibgdagaa", sum := "8deba76b782c0e8e8da210daef218962ffbcac6abfd3c0fb5e0920c08be3e21f", func := "chanfabric/chanfabriclaw18.HappensBefore", spec := "happensBefore", unfollowed := true, recurses := true, plainKeys := false, apart := false }
def HappensBeforeSaid : Prop := happensBeforeRow.holds Try.pinned (OpenSpec.ofChange happensBeforeSpec)

/-- ITS FALSE NEIGHBOUR: 'it returns false'. Refute it at one input. -/
def happensBeforeWrong : ChangeSpec := { name := "happensBefore", fn := fun _ => fun
  | [d1, d2, d3, d4] => { results := [.lit (.bool false)], args := [d1, d2, d3, d4] }
  | _ => none }
def HappensBeforeWrongFalsely : Prop := happensBeforeRow.holds Try.pinned (OpenSpec.ofChange happensBeforeWrong)

/-- 'chanfabriclaw18.HappensTransitive': WHATEVER THE INPUT: true; the input reads as it did. -/
def happensTransitiveSpec : ChangeSpec := { name := "happensTransitive", fn := fun _ => fun
  | [d1, d2] => { results := [.lit (.bool true)], args := [d1, d2] }
  | _ => none }
def happensTransitiveRow : OpenClaim := { program := "ytfbdehcibgdagaa", sum := "8deba76b782c0e8e8da210daef218962ffbcac6abfd3c0fb5e0920c08be3e21f", func := "chanfabric/chanfabriclaw18.HappensTransitive", spec := "happensTransitive", unfollowed := true, recurses := true, plainKeys := false, apart := false }
def HappensTransitiveSaid : Prop := happensTransitiveRow.holds Try.pinned (OpenSpec.ofChange happensTransitiveSpec)

/-- ITS FALSE NEIGHBOUR: 'it returns false'. Refute it at one input. -/
def happensTransitiveWrong : ChangeSpec := { name := "happensTransitive", fn := fun _ => fun
  | [d1, d2] => { results := [.lit (.bool false)], args := [d1, d2] }
  | _ => none }
def HappensTransitiveWrongFalsely : Prop := happensTransitiveRow.holds Try.pinned (OpenSpec.ofChange happensTransitiveWrong)

/-- 'chanfabriclaw18.HappensReads': WHATEVER THE INPUT: true; the input reads as it did. -/
def happensReadsSpec : ChangeSpec := { name := "happensReads", fn := fun _ => fun
  | [d1, d2] => { results := [.lit (.bool true)], args := [d1, d2] }
  | _ => none }
def happensReadsRow : OpenClaim := { program := "ytfbdehcibgdagaa", sum := "8deba76b782c0e8e8da210daef218962ffbcac6abfd3c0fb5e0920c08be3e21f", func := "chanfabric/chanfabriclaw18.HappensReads", spec := "happensReads", unfollowed := true, recurses := true, plainKeys := false, apart := false }
def HappensReadsSaid : Prop := happensReadsRow.holds Try.pinned (OpenSpec.ofChange happensReadsSpec)

/-- ITS FALSE NEIGHBOUR: 'it returns false'. Refute it at one input. -/
def happensReadsWrong : ChangeSpec := { name := "happensReads", fn := fun _ => fun
  | [d1, d2] => { results := [.lit (.bool false)], args := [d1, d2] }
  | _ => none }
def HappensReadsWrongFalsely : Prop := happensReadsRow.holds Try.pinned (OpenSpec.ofChange happensReadsWrong)

/-- 'chanfabriclaw18.HappensPrefixes': WHATEVER THE INPUT: true; the input reads as it did. -/
def happensPrefixesSpec : ChangeSpec := { name := "happensPrefixes", fn := fun _ => fun
  | [d1, d2, d3] => { results := [.lit (.bool true)], args := [d1, d2, d3] }
  | _ => none }
def happensPrefixesRow : OpenClaim := { program := "ytfbdehcibgdagaa", sum := "8deba76b782c0e8e8da210daef218962ffbcac6abfd3c0fb5e0920c08be3e21f", func := "chanfabric/chanfabriclaw18.HappensPrefixes", spec := "happensPrefixes", unfollowed := true, recurses := true, plainKeys := false, apart := false }
def HappensPrefixesSaid : Prop := happensPrefixesRow.holds Try.pinned (OpenSpec.ofChange happensPrefixesSpec)

/-- ITS FALSE NEIGHBOUR: 'it returns false'. Refute it at one input. -/
def happensPrefixesWrong : ChangeSpec := { name := "happensPrefixes", fn := fun _ => fun
  | [d1, d2, d3] => { results := [.lit (.bool false)], args := [d1, d2, d3] }
  | _ => none }
def HappensPrefixesWrongFalsely : Prop := happensPrefixesRow.holds Try.pinned (OpenSpec.ofChange happensPrefixesWrong)

/-- 'chanfabriclaw18.HappensLocks': WHATEVER THE INPUT: true; the input reads as it did. -/
def happensLocksSpec : ChangeSpec := { name := "happensLocks", fn := fun _ => fun
  | [d] => { results := [.lit (.bool true)], args := [d] }
  | _ => none }
def happensLocksRow : OpenClaim := { program := "ytfbdehcibgdagaa", sum := "8deba76b782c0e8e8da210daef218962ffbcac6abfd3c0fb5e0920c08be3e21f", func := "chanfabric/chanfabriclaw18.HappensLocks", spec := "happensLocks", unfollowed := true, recurses := true, plainKeys := false, apart := false }
def HappensLocksSaid : Prop := happensLocksRow.holds Try.pinned (OpenSpec.ofChange happensLocksSpec)

/-- ITS FALSE NEIGHBOUR: 'it returns false'. Refute it at one input. -/
def happensLocksWrong : ChangeSpec := { name := "happensLocks", fn := fun _ => fun
  | [d] => { results := [.lit (.bool false)], args := [d] }
  | _ => none }
def HappensLocksWrongFalsely : Prop := happensLocksRow.holds Try.pinned (OpenSpec.ofChange happensLocksWrong)

/- THE SECOND FORM. 'bulk': how many values and letters a reading holds, each counted each time it is reached (what is shared counts as often as it is met; a slice's spare places count too). A statement '..UptoSaid' is the law's where the arguments, and the package variables that the reading takes, are together of bulk at most 1048576: NARROWER than '..Said'. Prove '..Said' where nothing that the law and all that it calls make is longer than what came in: it says more and counts as full. Else prove '..UptoSaid'. A law counts once. -/
mutual
def uptoBulk {H : Type} : DataW H → Nat
  | .lit (.string bytes) => bytes.length + 1
  | .lit _ => 1
  | .nil => 1
  | .ptr d => uptoBulk d + 1
  | .slice elems spare => uptoBulkAll elems + uptoBulkAll spare + 1
  | .agg parts => uptoBulkAll parts + 1
  | .iface _ d => uptoBulk d + 1
  | .map entries => uptoBulkEntries entries + 1
  | .held _ => 1
def uptoBulkAll {H : Type} : List (DataW H) → Nat
  | [] => 0
  | d :: r => uptoBulk d + uptoBulkAll r
def uptoBulkEntries {H : Type} : List (Lit × DataW H) → Nat
  | [] => 0
  | x :: r => uptoBulkEntry x + uptoBulkEntries r
def uptoBulkEntry {H : Type} : Lit × DataW H → Nat
  | (.string bytes, d) => bytes.length + uptoBulk d + 1
  | (_, d) => uptoBulk d + 1
 end
def uptoSmall : (H : Type) → List (DataW H) → Bool := fun _ ds => decide (uptoBulkAll ds ≤ 1048576)
def OpenSpec.upto (s : _root_.Go.ChangeSpec) : _root_.Go.OpenSpec := { _root_.Go.OpenSpec.ofChange s with cond := some uptoSmall }

/-- 'chanfabriclaw18.HappensClocks', WHERE WHAT IT READS IS OF BULK AT MOST 1048576: true; the input reads as it did. -/
def happensClocksUptoRow : OpenClaim := { program := "ytfbdehcibgdagaa", sum := "8deba76b782c0e8e8da210daef218962ffbcac6abfd3c0fb5e0920c08be3e21f", func := "chanfabric/chanfabriclaw18.HappensClocks", spec := "happensClocks", unfollowed := true, recurses := true, plainKeys := false, apart := false, narrowed := true }
def HappensClocksUptoSaid : Prop := happensClocksUptoRow.holds Try.pinned (OpenSpec.upto happensClocksSpec)

/-- 'chanfabriclaw18.HappensBefore', WHERE WHAT IT READS IS OF BULK AT MOST 1048576: true; the input reads as it did. -/
def happensBeforeUptoRow : OpenClaim := { program := "ytfbdehcibgdagaa", sum := "8deba76b782c0e8e8da210daef218962ffbcac6abfd3c0fb5e0920c08be3e21f", func := "chanfabric/chanfabriclaw18.HappensBefore", spec := "happensBefore", unfollowed := true, recurses := true, plainKeys := false, apart := false, narrowed := true }
def HappensBeforeUptoSaid : Prop := happensBeforeUptoRow.holds Try.pinned (OpenSpec.upto happensBeforeSpec)

/-- 'chanfabriclaw18.HappensTransitive', WHERE WHAT IT READS IS OF BULK AT MOST 1048576: true; the input reads as it did. -/
def happensTransitiveUptoRow : OpenClaim := { program := "ytfbdehcibgdagaa", sum := "8deba76b782c0e8e8da210daef218962ffbcac6abfd3c0fb5e0920c08be3e21f", func := "chanfabric/chanfabriclaw18.HappensTransitive", spec := "happensTransitive", unfollowed := true, recurses := true, plainKeys := false, apart := false, narrowed := true }
def HappensTransitiveUptoSaid : Prop := happensTransitiveUptoRow.holds Try.pinned (OpenSpec.upto happensTransitiveSpec)

/-- 'chanfabriclaw18.HappensReads', WHERE WHAT IT READS IS OF BULK AT MOST 1048576: true; the input reads as it did. -/
def happensReadsUptoRow : OpenClaim := { program := "ytfbdehcibgdagaa", sum := "8deba76b782c0e8e8da210daef218962ffbcac6abfd3c0fb5e0920c08be3e21f", func := "chanfabric/chanfabriclaw18.HappensReads", spec := "happensReads", unfollowed := true, recurses := true, plainKeys := false, apart := false, narrowed := true }
def HappensReadsUptoSaid : Prop := happensReadsUptoRow.holds Try.pinned (OpenSpec.upto happensReadsSpec)

/-- 'chanfabriclaw18.HappensPrefixes', WHERE WHAT IT READS IS OF BULK AT MOST 1048576: true; the input reads as it did. -/
def happensPrefixesUptoRow : OpenClaim := { program := "ytfbdehcibgdagaa", sum := "8deba76b782c0e8e8da210daef218962ffbcac6abfd3c0fb5e0920c08be3e21f", func := "chanfabric/chanfabriclaw18.HappensPrefixes", spec := "happensPrefixes", unfollowed := true, recurses := true, plainKeys := false, apart := false, narrowed := true }
def HappensPrefixesUptoSaid : Prop := happensPrefixesUptoRow.holds Try.pinned (OpenSpec.upto happensPrefixesSpec)

/-- 'chanfabriclaw18.HappensLocks', WHERE WHAT IT READS IS OF BULK AT MOST 1048576: true; the input reads as it did. -/
def happensLocksUptoRow : OpenClaim := { program := "ytfbdehcibgdagaa", sum := "8deba76b782c0e8e8da210daef218962ffbcac6abfd3c0fb5e0920c08be3e21f", func := "chanfabric/chanfabriclaw18.HappensLocks", spec := "happensLocks", unfollowed := true, recurses := true, plainKeys := false, apart := false, narrowed := true }
def HappensLocksUptoSaid : Prop := happensLocksUptoRow.holds Try.pinned (OpenSpec.upto happensLocksSpec)

end Rows
end Go.Proofs.Ytfbdehcibgdagaa
