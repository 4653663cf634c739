/- Plain facts on parts: how many parts there are in one, itself among them. No program. -/
import Derived.Test.YtehiaenicfmpbaaDoorPlainK
namespace Go.Proofs.YtehiaenicfmpbaaDoor

/-- How many parts: itself, and all in it. -/
def cnt : PT → Nat
  | ⟨_, _, _, _, _, _, kids⟩ => 1 + (kids.attach.map fun ⟨k, _⟩ => cnt k).sum
theorem cnt_eq (p : PT) : cnt p = 1 + (p.kids.map cnt).sum := by
  obtain ⟨a, b, c, d, e, f, kids⟩ := p
  rw [cnt]
  congr 2
  show List.map (fun x : { x // x ∈ kids } => cnt x.1) kids.attach = List.map cnt kids
  conv => rhs; rw [← List.attach_map_subtype_val kids, List.map_map]
  rfl
theorem cnt_pos (p : PT) : 1 ≤ cnt p := by rw [cnt_eq]; omega
/-- Of all pairs that are left to do. -/
def cnts (l : List (PT × PT)) : Nat := (l.map fun x => cnt x.1).sum
theorem cnts_nil : cnts [] = 0 := rfl
theorem cnts_snoc (l : List (PT × PT)) (x : PT × PT) : cnts (l ++ [x]) = cnts l + cnt x.1 := by simp [cnts]
theorem cnts_length : ∀ l : List (PT × PT), l.length ≤ cnts l
  | [] => Nat.le_refl _
  | x :: l => by
    have := cnts_length l
    have h := cnt_pos x.1
    simp only [cnts, List.map_cons, List.sum_cons, List.length_cons] at this ⊢
    omega
end Go.Proofs.YtehiaenicfmpbaaDoor
