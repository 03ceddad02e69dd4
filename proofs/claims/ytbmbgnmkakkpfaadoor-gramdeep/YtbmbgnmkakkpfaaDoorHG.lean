/-
  Nine ways to be deeper, so often (pure).
-/
import Derived.Test.YtbmbgnmkakkpfaaDoorHF
import Derived.Test.YtbmbgnmkakkpfaaDoorHD
set_option linter.unusedVariables false
set_option linter.unusedSimpArgs false
namespace Go.Proofs.YtbmbgnmkakkpfaaDoor
abbrev tS (s : List Int) : Tn := ⟨5, sb s, 0, [], 0⟩
abbrev tA (s : List Int) : Tn := ⟨2, sb s, 0, [], 0⟩
abbrev tW (s : List Int) : Tn := ⟨6, sb s, 0, [], 0⟩
def dH (k : Nat) : List Int := [[40], [123], [91], [45, 32], [97, 40], [120, 32, 61, 32], [120, 32, 33, 32], [99, 97, 115, 101, 32, 120, 32, 111, 102, 32, 121, 32, 45, 62, 32], [114, 101, 99, 101, 105, 118, 101, 32, 121, 32, 45, 62, 32]].getD k []
def dE (k : Nat) : List Int := [[41], [125], [93], [], [41], [], [], [32, 101, 110, 100], [32, 101, 110, 100]].getD k []
def tH (k : Nat) : List Tn := [[tS [40]], [tS [123]], [tS [91]], [tS [45]], [tA [97], tS [40]], [tA [120], tS [61]], [tA [120], tS [33]], [tW [99, 97, 115, 101], tA [120], tW [111, 102], tA [121], tS [45, 62]], [tW [114, 101, 99, 101, 105, 118, 101], tA [121], tS [45, 62]]].getD k []
def tE (k : Nat) : List Tn := [[tS [41]], [tS [125]], [tS [93]], [], [tS [41]], [], [], [tW [101, 110, 100]], [tW [101, 110, 100]]].getD k []
def dA : List Int := [102, 40, 41, 32, 45, 62, 32]
def tP : List Tn := [tA [102], tS [40], tS [41], tS [45, 62]]
def dMany (k : Nat) : Nat := [1, 1, 1, 1, 2, 2, 2, 5, 3].getD k 0
def dLead (k : Nat) : Nat := [0, 0, 0, 0, 1, 1, 1, 0, 0].getD k 0
def dText (k n : Nat) : List Int := dA ++ (repL n (dH k) ++ ([122] ++ (repL n (dE k) ++ [46])))
def dToks (k n : Nat) : List Tn := tP ++ (repL n (tH k) ++ ([tA [122]] ++ (repL n (tE k) ++ [tS [46]])))
def okK (k : Nat) : Bool := okC (dH k) 122 (tH k) && okC (dH k) ((dH k).headD 0) (tH k) && okC dA 122 tP && okC dA ((dH k).headD 0) tP && okC [122] 46 [tA [122]] && (if (dE k).isEmpty then (tE k).isEmpty else okC (dE k) 46 (tE k) && okC (dE k) ((dE k).headD 0) (tE k) && okC [122] ((dE k).headD 0) [tA [122]]) && okC [46] 0 [tS [46]] && !(dH k).isEmpty
theorem okK_all : ((List.range 9).all okK) = true := by decide +kernel
def isOk : Except (Nat × Int) Tr → Bool
  | .ok _ => true
  | .error _ => false
def okD (k n : Nat) : Bool := isOk (parseV (dToks k n))
theorem okD0 : ((List.range 41).all (okD 0)) = true := by decide +kernel
theorem okD1 : ((List.range 41).all (okD 1)) = true := by decide +kernel
theorem okD2 : ((List.range 41).all (okD 2)) = true := by decide +kernel
theorem okD3 : ((List.range 41).all (okD 3)) = true := by decide +kernel
theorem okD4 : ((List.range 41).all (okD 4)) = true := by decide +kernel
theorem okD5 : ((List.range 41).all (okD 5)) = true := by decide +kernel
theorem okD6 : ((List.range 41).all (okD 6)) = true := by decide +kernel
theorem okD7 : ((List.range 41).all (okD 7)) = true := by decide +kernel
theorem okD8 : ((List.range 41).all (okD 8)) = true := by decide +kernel
def errD (k : Nat) : Bool := (fun q : Ps => (q.i == 4 + dMany k * 40 + dLead k) && (q.e == 161)) (funV (dToks k 41) (exun (dToks k 41) 41).1 ⟨0, 0, 0⟩).2
theorem errD_all : ((List.range 9).all errD) = true := by decide +kernel
end Go.Proofs.YtbmbgnmkakkpfaaDoor
