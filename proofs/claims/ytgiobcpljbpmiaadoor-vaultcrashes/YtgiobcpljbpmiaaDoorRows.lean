/-
  NARROWER THAN 'FOR EVERY INPUT', by the rows' own cells (each row's printed sentence says how): VaultPlays: laid · VaultCrashes: laid · VaultTwice: laid · VaultForged: laid · VaultLong: laid · VaultOwn: laid · VaultNil: laid.
  DERIVED. THE GIVEN ROWS OF THIS SEAT. 7 by the template 'for every input the law returns true; each argument reads behind the call as it read before'; 0 by the template 'total and deterministic' (their statements: YtgiobcpljbpmiaaDoorTotals.lean).
  GIVEN WITH THE SEED: the statements are not yours to turn. If you find one false, say at which input.
  Laid BY PROGRAM, IN A SANDBOX (cutbox-rows.mjs): the forced cells as the released guide's own fill.sh prints them over the translation 4e86df31860aa4c5… (all of the seat's roots in one cut). By AI agents, Wed Nov 11 2026. No macro, syntax, notation, axiom, sorry.
-/
import Derived.Test.YtgiobcpljbpmiaaDoorChecked
import GoSem.Claim
import GoSem.ClaimJoined
import GoSem.ClaimMapViews
import Derived.JoinedTies
import Derived.KernelRfl
namespace Go.Proofs.YtgiobcpljbpmiaaDoor
/- THE CELL 'sum', in the pinned program and in every row, IS THE sha256 OF THE DUMP (.gsa) THAT YtgiobcpljbpmiaaDoorProg.lean LOADS. Nothing in Lean hashes anything: it is a label: what it is worth is what the hold of that sum in a sandbox is worth. -/
noncomputable def Tryd.pinned : Pinned := { name := "ytgiobcpljbpmiaadoor", sum := "4e86df31860aa4c5937c955636747cd9c6461b0f25c771247a625d9afd4b202f", checked := Tryd.checked }
namespace Rows
def none {H : Type} : Left H := { results := [], args := [] }

/- WHAT THE LISTED PACKAGE-LEVEL VARIABLES READ AS WHEN THE CALL BEGINS. Each datum BY PROGRAM (the guide's laid-datum.mjs) off the statement by which the dump's own 'gosem.cut.vars' lays the variable. In a bare row this is a premise. The card (YtgiobcpljbpmiaaDoorCards.lean) ties it to the program's text. -/
def laid_jurat_sha_constants {H : Type} : DataW H := .agg [.lit (.int .u32 1116352408), .lit (.int .u32 1899447441), .lit (.int .u32 3049323471), .lit (.int .u32 3921009573), .lit (.int .u32 961987163), .lit (.int .u32 1508970993), .lit (.int .u32 2453635748), .lit (.int .u32 2870763221), .lit (.int .u32 3624381080), .lit (.int .u32 310598401), .lit (.int .u32 607225278), .lit (.int .u32 1426881987), .lit (.int .u32 1925078388), .lit (.int .u32 2162078206), .lit (.int .u32 2614888103), .lit (.int .u32 3248222580), .lit (.int .u32 3835390401), .lit (.int .u32 4022224774), .lit (.int .u32 264347078), .lit (.int .u32 604807628), .lit (.int .u32 770255983), .lit (.int .u32 1249150122), .lit (.int .u32 1555081692), .lit (.int .u32 1996064986), .lit (.int .u32 2554220882), .lit (.int .u32 2821834349), .lit (.int .u32 2952996808), .lit (.int .u32 3210313671), .lit (.int .u32 3336571891), .lit (.int .u32 3584528711), .lit (.int .u32 113926993), .lit (.int .u32 338241895), .lit (.int .u32 666307205), .lit (.int .u32 773529912), .lit (.int .u32 1294757372), .lit (.int .u32 1396182291), .lit (.int .u32 1695183700), .lit (.int .u32 1986661051), .lit (.int .u32 2177026350), .lit (.int .u32 2456956037), .lit (.int .u32 2730485921), .lit (.int .u32 2820302411), .lit (.int .u32 3259730800), .lit (.int .u32 3345764771), .lit (.int .u32 3516065817), .lit (.int .u32 3600352804), .lit (.int .u32 4094571909), .lit (.int .u32 275423344), .lit (.int .u32 430227734), .lit (.int .u32 506948616), .lit (.int .u32 659060556), .lit (.int .u32 883997877), .lit (.int .u32 958139571), .lit (.int .u32 1322822218), .lit (.int .u32 1537002063), .lit (.int .u32 1747873779), .lit (.int .u32 1955562222), .lit (.int .u32 2024104815), .lit (.int .u32 2227730452), .lit (.int .u32 2361852424), .lit (.int .u32 2428436474), .lit (.int .u32 2756734187), .lit (.int .u32 3204031479), .lit (.int .u32 3329325298)]
def laid_jurat_juratref02_first {H : Type} : DataW H := .agg [.lit (.int .u32 1779033703), .lit (.int .u32 3144134277), .lit (.int .u32 1013904242), .lit (.int .u32 2773480762), .lit (.int .u32 1359893119), .lit (.int .u32 2600822924), .lit (.int .u32 528734635), .lit (.int .u32 1541459225)]
def laid_jurat_juratref02_constants {H : Type} : DataW H := .agg [.lit (.int .u32 1116352408), .lit (.int .u32 1899447441), .lit (.int .u32 3049323471), .lit (.int .u32 3921009573), .lit (.int .u32 961987163), .lit (.int .u32 1508970993), .lit (.int .u32 2453635748), .lit (.int .u32 2870763221), .lit (.int .u32 3624381080), .lit (.int .u32 310598401), .lit (.int .u32 607225278), .lit (.int .u32 1426881987), .lit (.int .u32 1925078388), .lit (.int .u32 2162078206), .lit (.int .u32 2614888103), .lit (.int .u32 3248222580), .lit (.int .u32 3835390401), .lit (.int .u32 4022224774), .lit (.int .u32 264347078), .lit (.int .u32 604807628), .lit (.int .u32 770255983), .lit (.int .u32 1249150122), .lit (.int .u32 1555081692), .lit (.int .u32 1996064986), .lit (.int .u32 2554220882), .lit (.int .u32 2821834349), .lit (.int .u32 2952996808), .lit (.int .u32 3210313671), .lit (.int .u32 3336571891), .lit (.int .u32 3584528711), .lit (.int .u32 113926993), .lit (.int .u32 338241895), .lit (.int .u32 666307205), .lit (.int .u32 773529912), .lit (.int .u32 1294757372), .lit (.int .u32 1396182291), .lit (.int .u32 1695183700), .lit (.int .u32 1986661051), .lit (.int .u32 2177026350), .lit (.int .u32 2456956037), .lit (.int .u32 2730485921), .lit (.int .u32 2820302411), .lit (.int .u32 3259730800), .lit (.int .u32 3345764771), .lit (.int .u32 3516065817), .lit (.int .u32 3600352804), .lit (.int .u32 4094571909), .lit (.int .u32 275423344), .lit (.int .u32 430227734), .lit (.int .u32 506948616), .lit (.int .u32 659060556), .lit (.int .u32 883997877), .lit (.int .u32 958139571), .lit (.int .u32 1322822218), .lit (.int .u32 1537002063), .lit (.int .u32 1747873779), .lit (.int .u32 1955562222), .lit (.int .u32 2024104815), .lit (.int .u32 2227730452), .lit (.int .u32 2361852424), .lit (.int .u32 2428436474), .lit (.int .u32 2756734187), .lit (.int .u32 3204031479), .lit (.int .u32 3329325298)]

/-- 'juratlaw12.VaultPlays': WHATEVER THE INPUT: true; the input reads as it did. -/
def vaultPlaysSpec : ChangeSpec := { name := "vaultPlays", fn := fun _ => fun
  | [d] => { results := [.lit (.bool true)], args := [d] }
  | _ => none }
def vaultPlaysRow : OpenClaim := { program := "ytgiobcpljbpmiaadoor", sum := "4e86df31860aa4c5937c955636747cd9c6461b0f25c771247a625d9afd4b202f", func := "jurat/juratlaw12.VaultPlays", spec := "vaultPlays", unfollowed := true, recurses := true, named := ["jurat/sha.constants"], apart := false, laid := [("jurat/sha.constants", laid_jurat_sha_constants)] }
def VaultPlaysSaid : Prop := vaultPlaysRow.holds Tryd.pinned (OpenSpec.ofChange vaultPlaysSpec)

/-- ITS FALSE NEIGHBOUR: 'it returns false'. Refute it at one input. -/
def vaultPlaysWrong : ChangeSpec := { name := "vaultPlays", fn := fun _ => fun
  | [d] => { results := [.lit (.bool false)], args := [d] }
  | _ => none }
def VaultPlaysWrongFalsely : Prop := vaultPlaysRow.holds Tryd.pinned (OpenSpec.ofChange vaultPlaysWrong)

/-- 'juratlaw12.VaultCrashes': WHATEVER THE INPUT: true; the input reads as it did. -/
def vaultCrashesSpec : ChangeSpec := { name := "vaultCrashes", fn := fun _ => fun
  | [d1, d2, d3] => { results := [.lit (.bool true)], args := [d1, d2, d3] }
  | _ => none }
def vaultCrashesRow : OpenClaim := { program := "ytgiobcpljbpmiaadoor", sum := "4e86df31860aa4c5937c955636747cd9c6461b0f25c771247a625d9afd4b202f", func := "jurat/juratlaw12.VaultCrashes", spec := "vaultCrashes", unfollowed := true, recurses := true, named := ["jurat/sha.constants"], apart := false, laid := [("jurat/sha.constants", laid_jurat_sha_constants)] }
def VaultCrashesSaid : Prop := vaultCrashesRow.holds Tryd.pinned (OpenSpec.ofChange vaultCrashesSpec)

/-- ITS FALSE NEIGHBOUR: 'it returns false'. Refute it at one input. -/
def vaultCrashesWrong : ChangeSpec := { name := "vaultCrashes", fn := fun _ => fun
  | [d1, d2, d3] => { results := [.lit (.bool false)], args := [d1, d2, d3] }
  | _ => none }
def VaultCrashesWrongFalsely : Prop := vaultCrashesRow.holds Tryd.pinned (OpenSpec.ofChange vaultCrashesWrong)

/-- 'juratlaw12.VaultTwice': WHATEVER THE INPUT: true; the input reads as it did. -/
def vaultTwiceSpec : ChangeSpec := { name := "vaultTwice", fn := fun _ => fun
  | [d1, d2, d3, d4, d5] => { results := [.lit (.bool true)], args := [d1, d2, d3, d4, d5] }
  | _ => none }
def vaultTwiceRow : OpenClaim := { program := "ytgiobcpljbpmiaadoor", sum := "4e86df31860aa4c5937c955636747cd9c6461b0f25c771247a625d9afd4b202f", func := "jurat/juratlaw12.VaultTwice", spec := "vaultTwice", unfollowed := true, recurses := true, named := ["jurat/sha.constants"], apart := false, laid := [("jurat/sha.constants", laid_jurat_sha_constants)] }
def VaultTwiceSaid : Prop := vaultTwiceRow.holds Tryd.pinned (OpenSpec.ofChange vaultTwiceSpec)

/-- ITS FALSE NEIGHBOUR: 'it returns false'. Refute it at one input. -/
def vaultTwiceWrong : ChangeSpec := { name := "vaultTwice", fn := fun _ => fun
  | [d1, d2, d3, d4, d5] => { results := [.lit (.bool false)], args := [d1, d2, d3, d4, d5] }
  | _ => none }
def VaultTwiceWrongFalsely : Prop := vaultTwiceRow.holds Tryd.pinned (OpenSpec.ofChange vaultTwiceWrong)

/-- 'juratlaw12.VaultForged': WHATEVER THE INPUT: true; the input reads as it did. -/
def vaultForgedSpec : ChangeSpec := { name := "vaultForged", fn := fun _ => fun
  | [d1, d2, d3] => { results := [.lit (.bool true)], args := [d1, d2, d3] }
  | _ => none }
def vaultForgedRow : OpenClaim := { program := "ytgiobcpljbpmiaadoor", sum := "4e86df31860aa4c5937c955636747cd9c6461b0f25c771247a625d9afd4b202f", func := "jurat/juratlaw12.VaultForged", spec := "vaultForged", unfollowed := true, recurses := true, named := ["jurat/sha.constants", "jurat/juratref02.first", "jurat/juratref02.constants"], apart := false, laid := [("jurat/juratref02.first", laid_jurat_juratref02_first), ("jurat/juratref02.constants", laid_jurat_juratref02_constants), ("jurat/sha.constants", laid_jurat_sha_constants)] }
def VaultForgedSaid : Prop := vaultForgedRow.holds Tryd.pinned (OpenSpec.ofChange vaultForgedSpec)

/-- ITS FALSE NEIGHBOUR: 'it returns false'. Refute it at one input. -/
def vaultForgedWrong : ChangeSpec := { name := "vaultForged", fn := fun _ => fun
  | [d1, d2, d3] => { results := [.lit (.bool false)], args := [d1, d2, d3] }
  | _ => none }
def VaultForgedWrongFalsely : Prop := vaultForgedRow.holds Tryd.pinned (OpenSpec.ofChange vaultForgedWrong)

/-- 'juratlaw12.VaultLong': WHATEVER THE INPUT: true; the input reads as it did. -/
def vaultLongSpec : ChangeSpec := { name := "vaultLong", fn := fun _ => fun
  | [d1, d2] => { results := [.lit (.bool true)], args := [d1, d2] }
  | _ => none }
def vaultLongRow : OpenClaim := { program := "ytgiobcpljbpmiaadoor", sum := "4e86df31860aa4c5937c955636747cd9c6461b0f25c771247a625d9afd4b202f", func := "jurat/juratlaw12.VaultLong", spec := "vaultLong", unfollowed := true, recurses := true, named := ["jurat/sha.constants"], apart := false, laid := [("jurat/sha.constants", laid_jurat_sha_constants)] }
def VaultLongSaid : Prop := vaultLongRow.holds Tryd.pinned (OpenSpec.ofChange vaultLongSpec)

/-- ITS FALSE NEIGHBOUR: 'it returns false'. Refute it at one input. -/
def vaultLongWrong : ChangeSpec := { name := "vaultLong", fn := fun _ => fun
  | [d1, d2] => { results := [.lit (.bool false)], args := [d1, d2] }
  | _ => none }
def VaultLongWrongFalsely : Prop := vaultLongRow.holds Tryd.pinned (OpenSpec.ofChange vaultLongWrong)

/-- 'juratlaw12.VaultOwn': WHATEVER THE INPUT: true; the input reads as it did. -/
def vaultOwnSpec : ChangeSpec := { name := "vaultOwn", fn := fun _ => fun
  | [d] => { results := [.lit (.bool true)], args := [d] }
  | _ => none }
def vaultOwnRow : OpenClaim := { program := "ytgiobcpljbpmiaadoor", sum := "4e86df31860aa4c5937c955636747cd9c6461b0f25c771247a625d9afd4b202f", func := "jurat/juratlaw12.VaultOwn", spec := "vaultOwn", unfollowed := true, recurses := true, named := ["jurat/sha.constants"], apart := false, laid := [("jurat/sha.constants", laid_jurat_sha_constants)] }
def VaultOwnSaid : Prop := vaultOwnRow.holds Tryd.pinned (OpenSpec.ofChange vaultOwnSpec)

/-- ITS FALSE NEIGHBOUR: 'it returns false'. Refute it at one input. -/
def vaultOwnWrong : ChangeSpec := { name := "vaultOwn", fn := fun _ => fun
  | [d] => { results := [.lit (.bool false)], args := [d] }
  | _ => none }
def VaultOwnWrongFalsely : Prop := vaultOwnRow.holds Tryd.pinned (OpenSpec.ofChange vaultOwnWrong)

/-- 'juratlaw12.VaultNil': WHATEVER THE INPUT: true; the input reads as it did. -/
def vaultNilSpec : ChangeSpec := { name := "vaultNil", fn := fun _ => fun
  | [d] => { results := [.lit (.bool true)], args := [d] }
  | _ => none }
def vaultNilRow : OpenClaim := { program := "ytgiobcpljbpmiaadoor", sum := "4e86df31860aa4c5937c955636747cd9c6461b0f25c771247a625d9afd4b202f", func := "jurat/juratlaw12.VaultNil", spec := "vaultNil", unfollowed := true, recurses := true, named := ["jurat/sha.constants"], apart := false, laid := [("jurat/sha.constants", laid_jurat_sha_constants)] }
def VaultNilSaid : Prop := vaultNilRow.holds Tryd.pinned (OpenSpec.ofChange vaultNilSpec)

/-- ITS FALSE NEIGHBOUR: 'it returns false'. Refute it at one input. -/
def vaultNilWrong : ChangeSpec := { name := "vaultNil", fn := fun _ => fun
  | [d] => { results := [.lit (.bool false)], args := [d] }
  | _ => none }
def VaultNilWrongFalsely : Prop := vaultNilRow.holds Tryd.pinned (OpenSpec.ofChange vaultNilWrong)

/- THE SECOND FORM. 'bulk': how many values and letters a reading holds, each counted each time it is reached (what is shared counts as often as it is met; a slice's spare places count too). A statement '..UptoSaid' is the law's where the arguments, and the package variables that the reading takes, are together of bulk at most 1048576: NARROWER than '..Said'. Prove '..Said' where nothing that the law and all that it calls make is longer than what came in: it says more and counts as full. Else prove '..UptoSaid'. A law counts once. -/
mutual
def uptoBulk {H : Type} : DataW H → Nat
  | .lit (.string bytes) => bytes.length + 1
  | .lit _ => 1
  | .nil => 1
  | .ptr d => uptoBulk d + 1
  | .slice elems spare => uptoBulkAll elems + uptoBulkAll spare + 1
  | .agg parts => uptoBulkAll parts + 1
  | .iface _ d => uptoBulk d + 1
  | .map entries => uptoBulkEntries entries + 1
  | .held _ => 1
def uptoBulkAll {H : Type} : List (DataW H) → Nat
  | [] => 0
  | d :: r => uptoBulk d + uptoBulkAll r
def uptoBulkEntries {H : Type} : List (Lit × DataW H) → Nat
  | [] => 0
  | x :: r => uptoBulkEntry x + uptoBulkEntries r
def uptoBulkEntry {H : Type} : Lit × DataW H → Nat
  | (.string bytes, d) => bytes.length + uptoBulk d + 1
  | (_, d) => uptoBulk d + 1
 end
def uptoSmall : (H : Type) → List (DataW H) → Bool := fun _ ds => decide (uptoBulkAll ds ≤ 1048576)
def OpenSpec.upto (s : _root_.Go.ChangeSpec) : _root_.Go.OpenSpec := { _root_.Go.OpenSpec.ofChange s with cond := some uptoSmall }

/-- 'juratlaw12.VaultPlays', WHERE WHAT IT READS IS OF BULK AT MOST 1048576: true; the input reads as it did. -/
def vaultPlaysUptoRow : OpenClaim := { program := "ytgiobcpljbpmiaadoor", sum := "4e86df31860aa4c5937c955636747cd9c6461b0f25c771247a625d9afd4b202f", func := "jurat/juratlaw12.VaultPlays", spec := "vaultPlays", unfollowed := true, recurses := true, named := ["jurat/sha.constants"], apart := false, laid := [("jurat/sha.constants", laid_jurat_sha_constants)], narrowed := true }
def VaultPlaysUptoSaid : Prop := vaultPlaysUptoRow.holds Tryd.pinned (OpenSpec.upto vaultPlaysSpec)

/-- 'juratlaw12.VaultCrashes', WHERE WHAT IT READS IS OF BULK AT MOST 1048576: true; the input reads as it did. -/
def vaultCrashesUptoRow : OpenClaim := { program := "ytgiobcpljbpmiaadoor", sum := "4e86df31860aa4c5937c955636747cd9c6461b0f25c771247a625d9afd4b202f", func := "jurat/juratlaw12.VaultCrashes", spec := "vaultCrashes", unfollowed := true, recurses := true, named := ["jurat/sha.constants"], apart := false, laid := [("jurat/sha.constants", laid_jurat_sha_constants)], narrowed := true }
def VaultCrashesUptoSaid : Prop := vaultCrashesUptoRow.holds Tryd.pinned (OpenSpec.upto vaultCrashesSpec)

/-- 'juratlaw12.VaultTwice', WHERE WHAT IT READS IS OF BULK AT MOST 1048576: true; the input reads as it did. -/
def vaultTwiceUptoRow : OpenClaim := { program := "ytgiobcpljbpmiaadoor", sum := "4e86df31860aa4c5937c955636747cd9c6461b0f25c771247a625d9afd4b202f", func := "jurat/juratlaw12.VaultTwice", spec := "vaultTwice", unfollowed := true, recurses := true, named := ["jurat/sha.constants"], apart := false, laid := [("jurat/sha.constants", laid_jurat_sha_constants)], narrowed := true }
def VaultTwiceUptoSaid : Prop := vaultTwiceUptoRow.holds Tryd.pinned (OpenSpec.upto vaultTwiceSpec)

/-- 'juratlaw12.VaultForged', WHERE WHAT IT READS IS OF BULK AT MOST 1048576: true; the input reads as it did. -/
def vaultForgedUptoRow : OpenClaim := { program := "ytgiobcpljbpmiaadoor", sum := "4e86df31860aa4c5937c955636747cd9c6461b0f25c771247a625d9afd4b202f", func := "jurat/juratlaw12.VaultForged", spec := "vaultForged", unfollowed := true, recurses := true, named := ["jurat/sha.constants", "jurat/juratref02.first", "jurat/juratref02.constants"], apart := false, laid := [("jurat/juratref02.first", laid_jurat_juratref02_first), ("jurat/juratref02.constants", laid_jurat_juratref02_constants), ("jurat/sha.constants", laid_jurat_sha_constants)], narrowed := true }
def VaultForgedUptoSaid : Prop := vaultForgedUptoRow.holds Tryd.pinned (OpenSpec.upto vaultForgedSpec)

/-- 'juratlaw12.VaultLong', WHERE WHAT IT READS IS OF BULK AT MOST 1048576: true; the input reads as it did. -/
def vaultLongUptoRow : OpenClaim := { program := "ytgiobcpljbpmiaadoor", sum := "4e86df31860aa4c5937c955636747cd9c6461b0f25c771247a625d9afd4b202f", func := "jurat/juratlaw12.VaultLong", spec := "vaultLong", unfollowed := true, recurses := true, named := ["jurat/sha.constants"], apart := false, laid := [("jurat/sha.constants", laid_jurat_sha_constants)], narrowed := true }
def VaultLongUptoSaid : Prop := vaultLongUptoRow.holds Tryd.pinned (OpenSpec.upto vaultLongSpec)

/-- 'juratlaw12.VaultOwn', WHERE WHAT IT READS IS OF BULK AT MOST 1048576: true; the input reads as it did. -/
def vaultOwnUptoRow : OpenClaim := { program := "ytgiobcpljbpmiaadoor", sum := "4e86df31860aa4c5937c955636747cd9c6461b0f25c771247a625d9afd4b202f", func := "jurat/juratlaw12.VaultOwn", spec := "vaultOwn", unfollowed := true, recurses := true, named := ["jurat/sha.constants"], apart := false, laid := [("jurat/sha.constants", laid_jurat_sha_constants)], narrowed := true }
def VaultOwnUptoSaid : Prop := vaultOwnUptoRow.holds Tryd.pinned (OpenSpec.upto vaultOwnSpec)

/-- 'juratlaw12.VaultNil', WHERE WHAT IT READS IS OF BULK AT MOST 1048576: true; the input reads as it did. -/
def vaultNilUptoRow : OpenClaim := { program := "ytgiobcpljbpmiaadoor", sum := "4e86df31860aa4c5937c955636747cd9c6461b0f25c771247a625d9afd4b202f", func := "jurat/juratlaw12.VaultNil", spec := "vaultNil", unfollowed := true, recurses := true, named := ["jurat/sha.constants"], apart := false, laid := [("jurat/sha.constants", laid_jurat_sha_constants)], narrowed := true }
def VaultNilUptoSaid : Prop := vaultNilUptoRow.holds Tryd.pinned (OpenSpec.upto vaultNilSpec)

end Rows
end Go.Proofs.YtgiobcpljbpmiaaDoor
