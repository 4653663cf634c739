/- Plain facts on runes: unicode.SimpleFold as a plain function of the tables that the row lists; it gives the rune back behind one to four steps, at every rune of the case table and at the first 128. No program. -/
import Derived.Test.YtnmmlbgadibimaaDoorRows
import Derived.Lib.CaseU
namespace Go.Proofs.YtnmmlbgadibimaaDoor
open Go.Lib

def orbOf : DataW Unit → List (Nat × Nat)
  | .slice els _ => els.filterMap fun
    | .agg [.lit (.int _ a), .lit (.int _ b)] => some (a.toNat, b.toNat)
    | _ => none
  | _ => []
def ascOf : DataW Unit → List Nat
  | .agg els => els.filterMap fun
    | .lit (.int _ a) => some a.toNat
    | _ => none
  | _ => []
def orb : List (Nat × Nat) := orbOf Rows.laid_unicode_caseOrbit
def asc : List Nat := ascOf Rows.laid_unicode_asciiFold

def sfold (r : Nat) : Nat :=
  if r < 128 then asc.getD r 0
  else match orb.find? (fun x => x.1 == r) with
    | some x => x.2
    | none => match lookupIdx caseA r (caseA.size + 1) 0 caseA.size with
      | some i => if convertR 1 r (caseA.getD i (0, 0, 0, 0, 0)) ≠ r then (convertR 1 r (caseA.getD i (0, 0, 0, 0, 0))).toNat else (convertR 0 r (caseA.getD i (0, 0, 0, 0, 0))).toNat
      | none => r
def foldsBack (r : Nat) : Bool := sfold r == r || sfold (sfold r) == r || sfold (sfold (sfold r)) == r || sfold (sfold (sfold (sfold r))) == r
def rowsBack (a b : Nat) : Bool := ((caseT.drop a).take b).all fun x => (List.range (x.2.1 + 1 - x.1)).all fun k => foldsBack (x.1 + k)
set_option maxRecDepth 1000000 in
theorem ascBack : (List.range 128).all foldsBack = true := by decide +kernel
set_option maxRecDepth 1000000 in
theorem back0 : rowsBack 0 8 = true := by decide +kernel
set_option maxRecDepth 1000000 in
theorem back8 : rowsBack 8 8 = true := by decide +kernel
set_option maxRecDepth 1000000 in
theorem back16 : rowsBack 16 8 = true := by decide +kernel
set_option maxRecDepth 1000000 in
theorem back24 : rowsBack 24 8 = true := by decide +kernel
set_option maxRecDepth 1000000 in
theorem back32 : rowsBack 32 8 = true := by decide +kernel
set_option maxRecDepth 1000000 in
theorem back40 : rowsBack 40 8 = true := by decide +kernel
set_option maxRecDepth 1000000 in
theorem back48 : rowsBack 48 8 = true := by decide +kernel
set_option maxRecDepth 1000000 in
theorem back56 : rowsBack 56 8 = true := by decide +kernel
set_option maxRecDepth 1000000 in
theorem back64 : rowsBack 64 8 = true := by decide +kernel
set_option maxRecDepth 1000000 in
theorem back72 : rowsBack 72 8 = true := by decide +kernel
set_option maxRecDepth 1000000 in
theorem back80 : rowsBack 80 8 = true := by decide +kernel
set_option maxRecDepth 1000000 in
theorem back88 : rowsBack 88 8 = true := by decide +kernel
set_option maxRecDepth 1000000 in
theorem back96 : rowsBack 96 8 = true := by decide +kernel
set_option maxRecDepth 1000000 in
theorem back104 : rowsBack 104 8 = true := by decide +kernel
set_option maxRecDepth 1000000 in
theorem back112 : rowsBack 112 8 = true := by decide +kernel
set_option maxRecDepth 1000000 in
theorem back120 : rowsBack 120 8 = true := by decide +kernel
set_option maxRecDepth 1000000 in
theorem back128 : rowsBack 128 8 = true := by decide +kernel
set_option maxRecDepth 1000000 in
theorem back136 : rowsBack 136 8 = true := by decide +kernel
set_option maxRecDepth 1000000 in
theorem back144 : rowsBack 144 8 = true := by decide +kernel
set_option maxRecDepth 1000000 in
theorem back152 : rowsBack 152 8 = true := by decide +kernel
set_option maxRecDepth 1000000 in
theorem back160 : rowsBack 160 8 = true := by decide +kernel
set_option maxRecDepth 1000000 in
theorem back168 : rowsBack 168 8 = true := by decide +kernel
set_option maxRecDepth 1000000 in
theorem back176 : rowsBack 176 8 = true := by decide +kernel
set_option maxRecDepth 1000000 in
theorem back184 : rowsBack 184 8 = true := by decide +kernel
set_option maxRecDepth 1000000 in
theorem back192 : rowsBack 192 8 = true := by decide +kernel
set_option maxRecDepth 1000000 in
theorem back200 : rowsBack 200 8 = true := by decide +kernel
set_option maxRecDepth 1000000 in
theorem back208 : rowsBack 208 8 = true := by decide +kernel
set_option maxRecDepth 1000000 in
theorem back216 : rowsBack 216 8 = true := by decide +kernel
set_option maxRecDepth 1000000 in
theorem back224 : rowsBack 224 8 = true := by decide +kernel
set_option maxRecDepth 1000000 in
theorem back232 : rowsBack 232 8 = true := by decide +kernel
set_option maxRecDepth 1000000 in
theorem back240 : rowsBack 240 8 = true := by decide +kernel
set_option maxRecDepth 1000000 in
theorem back248 : rowsBack 248 8 = true := by decide +kernel
set_option maxRecDepth 1000000 in
theorem back256 : rowsBack 256 8 = true := by decide +kernel
set_option maxRecDepth 1000000 in
theorem back264 : rowsBack 264 8 = true := by decide +kernel
set_option maxRecDepth 1000000 in
theorem back272 : rowsBack 272 8 = true := by decide +kernel
set_option maxRecDepth 1000000 in
theorem back280 : rowsBack 280 8 = true := by decide +kernel
set_option maxRecDepth 1000000 in
theorem back288 : rowsBack 288 8 = true := by decide +kernel
set_option maxRecDepth 1000000 in
theorem back296 : rowsBack 296 8 = true := by decide +kernel
set_option maxRecDepth 1000000 in
theorem back304 : rowsBack 304 8 = true := by decide +kernel
set_option maxRecDepth 1000000 in
theorem back312 : rowsBack 312 8 = true := by decide +kernel
set_option maxRecDepth 1000000 in
theorem back320 : rowsBack 320 8 = true := by decide +kernel
set_option maxRecDepth 1000000 in
theorem back328 : rowsBack 328 8 = true := by decide +kernel
end Go.Proofs.YtnmmlbgadibimaaDoor
