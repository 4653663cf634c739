/- The law HeaderGets answers true at all fields: the first field of a name counts, large or small letters alike; what is behind others of another name is got as well. Premises: the card's own (the listed tables of unicode and unicode/utf8 as the program's text lays them). -/
import Derived.Test.YtnlnjjcfpbmpmaaDoorHGetsLaw
import Derived.Test.YtnlnjjcfpbmpmaaDoorHOpen
import Derived.Test.YtnlnjjcfpbmpmaaDoorShaped
import Derived.Test.YtnlnjjcfpbmpmaaDoorTie
import Derived.Test.YtnlnjjcfpbmpmaaDoorCards
import Derived.HandedShaped
import Derived.Shelf.Vars
import Derived.Lay
import Derived.SevenTiedAt
import Derived.Stop.Joined
import Derived.WalkKit
import Derived.ProofKit
import Derived.OpenShut
import Derived.ShutString
import Derived.ChangeOld
import Derived.Below
namespace Go.Proofs.YtnlnjjcfpbmpmaaDoor.headerGets
open Go.ChangeShapes Go.WideShapes Go.ChangeAt Go.RowKit
open Go.ChangeMaps (open_string shut_string)
set_option linter.unusedVariables false

theorem sized0 {H : Type} {enc : TypeId × Value → H} {W : World} {a0 : Option Addr} {len0 cap0 : Nat} {v1 : Value} {sp : OpenSpec}
    (hz : sizedMet enc Tryd.prog Tryd.f9 sp false W #[.slice a0 len0 cap0, v1]) : len0 * 32 ≤ 140737488351232 := by
  obtain ⟨_, ds, gs, before, hW, hw⟩ := hz
  obtain ⟨p, q, hA0, _, _, _, _⟩ := hW
  have hA : DataW.TrodAll enc Tryd.prog W 0 (fun _ => true) true Tryd.f9.params.toList [.slice a0 len0 cap0, v1] ds p := hA0
  rw [Tryd.params9] at hA hw
  obtain ⟨v0, vs0, d0, ds0, p0, q0, hargs, rfl, rfl, h0, _⟩ := trodAll_cons hA
  obtain rfl : v0 = .slice a0 len0 cap0 := (List.cons.inj hargs).1.symm
  obtain ⟨fuel, hf⟩ := h0
  exact fields_weigh hf hw

set_option maxRecDepth 100000 in
theorem lifted (os : Os) (started : os.Started) (H : Type) (enc : TypeId × Value → H) :
    ReturnsInHanded {} Tryd.checked os 9 .any (fun w args => (Rows.headerGetsSpec.pre enc Tryd.prog Tryd.f9 Rows.headerGetsRow.domain false w args ∧ laidMetH Tryd.prog Rows.headerGetsRow.laid w) ∧ sizedMet enc Tryd.prog Tryd.f9 (OpenSpec.ofChange Rows.headerGetsSpec) false w args)
      (Rows.headerGetsSpec.post enc Tryd.prog Tryd.f9 false true false false) := by
  refine handed_sized (C := Tryd.checked) (X := fun w _ => laidMetH Tryd.prog Rows.headerGetsRow.laid w) (fun _ _ _ hh h => h.of_heap hh) own started (by kernel_rfl) Tryd.func9
    (ChangeSpec.witness_shaped (enc := enc) (C := Tryd.checked) (os := os) (X := fun w _ => laidMetH Tryd.prog Rows.headerGetsRow.laid w) false (World.laidAll Tryd.prog os Rows.headerGetsRow.laid) #[.slice none 0 0, .agg #[.string ByteArray.empty, .string ByteArray.empty]] 8 (World.laidAll_os _ _ _)
      (World.shaped_of_ZipB (by kernel_rfl) (by kernel_rfl)) (by kernel_rfl) (by kernel_rfl) (by kernel_rfl)
      (by rw [MakeChecks.laidMetH_plain _ _ _ (by kernel_rfl)]; exact laidMet_laidAll _ (by kernel_rfl) (by kernel_rfl))) ?_
  intro W base args ds gs before hval0 hW hL hz hsh
  have hval : ∀ (j : Nat) t v, Tryd.f9.params[j]? = some t → args[j]? = some v → Value.okWide Tryd.prog W .any base t v := hval0
  have hW' := hW
  obtain ⟨p, q, hA0, hV, rfl, hfz, hnd⟩ := hW
  have hA : DataW.TrodAll enc Tryd.prog W 0 (fun _ => true) true Tryd.f9.params.toList args.toList ds p := hA0
  rw [Tryd.params9] at hA hval
  obtain ⟨v0, vs0, d0, ds0, p0, q0, hargs, rfl, rfl, h0, tl0⟩ := trodAll_cons hA
  obtain ⟨v1, vs1, d1, ds1, p1, q1, rfl, rfl, rfl, h1, tl1⟩ := trodAll_cons tl0
  obtain ⟨rfl, rfl, rfl⟩ := trodAll_nil tl1
  obtain rfl : args = #[v0, v1] := by cases args; simp_all
  obtain ⟨rfl, rfl⟩ := trodVars_none hV
  have k0 := h0
  have lt0 : ∀ x ∈ p0, x.block < W.heap.size := by obtain ⟨m, hm⟩ := k0; exact DataW.trod_lt m _ _ _ hm
  obtain ⟨a0, len0, cap0, rfl⟩ := okWide_slice Tryd.underlying40 (hval 0 40 v0 rfl rfl)
  obtain ⟨L0, e0, c0, m0, n0, r0, l0⟩ : ∃ l : List FV, l.length = len0 ∧ len0 ≤ cap0 ∧ cap0 ≤ maxLen ∧ (a0 = none → len0 = 0 ∧ cap0 = 0) ∧ FRow W a0 l ∧ FLen l := by
    obtain ⟨fuel, hf⟩ := h0
    exact fields_open hf
  have k1 := h1
  have lt1 : ∀ x ∈ p1, x.block < W.heap.size := by obtain ⟨m, hm⟩ := k1; exact DataW.trod_lt m _ _ _ hm
  obtain ⟨s1, t1, rfl, w1, x1⟩ : ∃ s t : ByteArray, v1 = .agg #[.string s, .string t] ∧ s.size ≤ maxLen ∧ t.size ≤ maxLen := by
    obtain ⟨fuel, hf⟩ := h1
    exact field_open (hval 1 51 v1 rfl rfl) hf
  clear hA0 hval0
  obtain ⟨m, hm⟩ := maxLen_cell hsh
  refine (gets_any a0 len0 cap0 L0 s1 t1 e0.symm W (sized0 hz) l0 w1 x1 r0 n0).mono fun e W' ⟨he, bel⟩ => ?_
  subst he
  exact ⟨_, rfl, _, _, _, [], _, [], hW', trodAll_mk1 (shut_bool Tryd.underlying4 _), (trodAll_cons_mk (Below.trod laidOut (by kernel_rfl) (of_decide_eq_true (by kernel_rfl)) k0 bel lt0) (trodAll_cons_mk (Below.trod laidOut (by kernel_rfl) (of_decide_eq_true (by kernel_rfl)) k1 bel lt1) trodAll_mk0)), rfl, bel.frame _, fun h => by cases h⟩

theorem over : Rows.headerGetsRow.holds Tryd.pinned (OpenSpec.ofChange Rows.headerGetsSpec) :=
  OpenClaim.holds_of_wide 9 Tryd.f9 rfl rfl rfl rfl rfl rfl rfl ⟨rfl, rfl, rfl, rfl, rfl⟩ rfl rfl rfl rfl rfl (by kernel_rfl) Tryd.func9 (by kernel_rfl)
    (of_decide_eq_true (by kernel_rfl)) (by unfold Func.isWrapper; first | (rw [if_pos (by decide +kernel)]; kernel_rfl) | (rw [if_neg (by decide +kernel)]; exact ⟨rfl, rfl⟩))
    (fun os started H enc _ => lifted os started H enc)

theorem card : Rows.HeaderGetsCardSaid :=
  Claim7.holds_tied_plain_at .later [] [.data, .data, .data, .pinned, .pinned] true Rows.headerGetsCard.stood.harness true over (fun _ h => by cases h) (by kernel_rfl) (fun _ h => by cases h) headerGets_row_tie rfl ⟨rfl, rfl⟩ (by kernel_rfl) rfl
    (fun f fn hf hfn => by
      obtain rfl : f = 9 := Option.some.inj ((show Tryd.prog.funcNamed Rows.headerGetsRow.func = some 9 by kernel_rfl).symm.trans hf) |>.symm
      obtain rfl : fn = Tryd.f9 := (Option.some.inj (Tryd.func9.symm.trans hfn)).symm
      exact ⟨by kernel_rfl, fun j t ht => by
        rw [Tryd.params9] at ht
        have hm : t ∈ [40, 51] := by simpa using Array.mem_of_getElem? ht
        have hall : ([40, 51].all fun u => !Tryd.prog.wantsStandIn u) = true := by kernel_rfl
        exact (show Tryd.prog.wantsStandIn t = false by
          rw [List.all_eq_true] at hall
          simpa using hall t hm)⟩)
    (by kernel_rfl)
end Go.Proofs.YtnlnjjcfpbmpmaaDoor.headerGets
namespace Go.Proofs.YtnlnjjcfpbmpmaaDoor
/-- The statement. -/
theorem headerGets_holds : Rows.HeaderGetsCardSaid := headerGets.card
#print axioms headerGets_holds
end Go.Proofs.YtnlnjjcfpbmpmaaDoor
