/- An address as cells. No function of the program. -/
import Derived.Test.YtnfidloiediflabDoorUText
namespace Go.Proofs.YtnfidloiediflabDoor
open Go.RowKit

/-- An address as cells. -/
abbrev cellsU (a0 : ByteArray) (a1 : Bool) (a2 a3 : ByteArray) (a4 : Bool) (a5 : ByteArray) (a6 : Bool) (a7 : ByteArray) : Array Value := #[.string a0, .bool a1, .string a2, .string a3, .bool a4, .string a5, .bool a6, .string a7]
abbrev E0 : ByteArray := ⟨#[]⟩
abbrev zeroU : Value := .agg #[.string ⟨#[]⟩, .bool false, .string ⟨#[]⟩, .string ⟨#[]⟩, .bool false, .string ⟨#[]⟩, .bool false, .string ⟨#[]⟩]
end Go.Proofs.YtnfidloiediflabDoor
