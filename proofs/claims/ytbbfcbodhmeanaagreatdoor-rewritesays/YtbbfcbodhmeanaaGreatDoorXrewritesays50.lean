/- The law RewriteSays answers true for every part, all names and every number, and leaves its arguments as they were; conditions: the listed tables of the library hold what their texts say, as the card has it. -/
import Derived.Test.YtbbfcbodhmeanaaGreatDoorXrewritesays49
import Derived.Test.YtbbfcbodhmeanaaGreatDoorTie
import Derived.Test.YtbbfcbodhmeanaaGreatDoorCards
set_option maxHeartbeats 8000000
set_option maxRecDepth 1000000
namespace Go.Proofs.YtbbfcbodhmeanaaGreatDoor.rewriteSays
open Go.ChangeShapes Go.WideShapes Go.ChangeAt Go.RowKit
open Go.ChangeMaps (open_string shut_string)
set_option linter.unusedVariables false
theorem aKd (os : Os) (started : os.Started) (H : Type) (enc : TypeId × Value -> H) :
  ReturnsInHanded {} Tryz.checked os 5 .any (λw args => (Rows.rewriteSaysSpec.pre enc Tryz.prog Tryz.f5 Rows.rewriteSaysRow.domain false w args /\ laidMetH Tryz.prog Rows.rewriteSaysRow.laid w) /\ sizedMet enc Tryz.prog Tryz.f5 (OpenSpec.ofChange Rows.rewriteSaysSpec) false w args)
   (Rows.rewriteSaysSpec.post enc Tryz.prog Tryz.f5 false true false false) := by
 refine aH8 (C := Tryz.checked) (X := λw _ => laidMetH Tryz.prog Rows.rewriteSaysRow.laid w) (λ_ _ _ hh h => h.of_heap hh) own started (by kernel_rfl) Tryz.func5
  (ChangeSpec.witness_shaped (enc := enc) (C := Tryz.checked) (os := os) (X := λw _ => laidMetH Tryz.prog Rows.rewriteSaysRow.laid w) false (World.laidAll Tryz.prog os Rows.rewriteSaysRow.laid) #[.agg #[.string ByteArray.empty, .string ByteArray.empty, .string ByteArray.empty, .string ByteArray.empty, .int .i64 0, .slice none 0 0, .slice none 0 0], .slice none 0 0, .int .i64 0] 8 (World.laidAll_os _ _ _)
   (World.shaped_of_ZipB (by kernel_rfl) (by kernel_rfl)) (by kernel_rfl) (by kernel_rfl) (by kernel_rfl)
   (by rw [MakeChecks.laidMetH_plain _ _ _ (by kernel_rfl)]; exact laidMet_laidAll _ (by kernel_rfl) (by kernel_rfl))) ?_
 intro W base args ds gs before hval0 hW hL hz hsh
 have hval : ∀ (j : Nat) t v, Tryz.f5.params[j]? = some t -> args[j]? = some v -> Value.okWide Tryz.prog W .any base t v := hval0
 have hW' := hW
 obtain ⟨p, q, hA0, hV, rfl, hfz, hnd⟩ := hW
 have hA : DataW.TrodAll enc Tryz.prog W 0 (λ_ => true) true Tryz.f5.params.toList args.toList ds p := hA0
 rw [Tryz.params5] at hA hval
 obtain ⟨v0, vs0, d0, ds0, p0, q0, hargs, rfl, rfl, h0, tl0⟩ := trodAll_cons hA
 obtain ⟨v1, vs1, d1, ds1, p1, q1, rfl, rfl, rfl, h1, tl1⟩ := trodAll_cons tl0
 obtain ⟨v2, vs2, d2, ds2, p2, q2, rfl, rfl, rfl, h2, tl2⟩ := trodAll_cons tl1
 obtain ⟨rfl, rfl, rfl⟩ := trodAll_nil tl2
 obtain rfl : args = #[v0, v1, v2] := by cases args; simp_all
 obtain ⟨rfl, rfl⟩ := trodVars_none hV
 have k0 := h0
 have lt0 : ∀ x ∈ p0, x.block < W.heap.size := by obtain ⟨m, hm⟩ := k0; exact DataW.trod_lt m _ _ _ hm
 obtain ⟨P0, pb0, cb0, pk0, ck0, F0, rfl, g0⟩ : ∃ (p : PT) (pb : Option Addr) (cb : Nat) (pk : Option Addr) (ck F : Nat), v0 = .agg #[.string p.ty, .string p.cs, .string p.id, .string p.loc, .int .i64 p.how, .slice pb p.body.length cb, .slice pk p.kids.length ck] /\ aA3 W F p pb cb pk ck := by
  obtain ⟨fuel, hf⟩ := h0
  exact aMJ (hval 0 25 v0 rfl rfl) hf
 have k1 := h1
 have lt1 : ∀ x ∈ p1, x.block < W.heap.size := by obtain ⟨m, hm⟩ := k1; exact DataW.trod_lt m _ _ _ hm
 obtain ⟨a1, len1, cap1, rfl⟩ := okWide_slice Tryz.underlying48 (hval 1 48 v1 rfl rfl)
 obtain ⟨L1, e1, c1, m1, n1, r1, l1⟩ : ∃ l : List NM, l.length = len1 /\ len1 <= cap1 /\ cap1 <= maxLen /\ (a1 = none -> len1 = 0 /\ cap1 = 0) /\ aAV W a1 l /\ aAS l := by
  obtain ⟨fuel, hf⟩ := h1
  exact aLs hf
 have k2 := h2
 have lt2 : ∀ x ∈ p2, x.block < W.heap.size := by obtain ⟨m, hm⟩ := k2; exact DataW.trod_lt m _ _ _ hm
 obtain ⟨z2, rfl, rfl, rfl, w2⟩ := open_int Tryz.underlying3 (hval 2 3 v2 rfl rfl) h2
 clear hA0 hval0
 obtain ⟨m, hm⟩ := aK9 hsh
 refine (aLI P0 pb0 cb0 pk0 ck0 F0 a1 len1 cap1 L1 z2 e1.symm l1 W (aJ2 hL m hm) g0 r1).mono λe W' ⟨he, bel⟩ => ?_
 subst he
 exact ⟨_, rfl, _, _, _, [], _, [], hW', trodAll_mk1 (shut_bool Tryz.underlying4 _), (trodAll_cons_mk (Below.trod aJw (by kernel_rfl) (of_decide_eq_true (by kernel_rfl)) k0 bel lt0) (trodAll_cons_mk (Below.trod aJw (by kernel_rfl) (of_decide_eq_true (by kernel_rfl)) k1 bel lt1) (trodAll_cons_mk (Below.trod aJw (by kernel_rfl) (of_decide_eq_true (by kernel_rfl)) k2 bel lt2) trodAll_mk0))), rfl, bel.frame _, λh => by cases h⟩
theorem aL7 : Rows.rewriteSaysRow.holds Tryz.pinned (OpenSpec.ofChange Rows.rewriteSaysSpec) :=
 OpenClaim.holds_of_wide 5 Tryz.f5 rfl rfl rfl rfl rfl rfl rfl ⟨rfl, rfl, rfl, rfl, rfl⟩ rfl rfl rfl rfl rfl (by kernel_rfl) Tryz.func5 (by kernel_rfl)
  (of_decide_eq_true (by kernel_rfl)) (by unfold Func.isWrapper; first | (rw [if_pos (by decide +kernel)]; kernel_rfl) | (rw [if_neg (by decide +kernel)]; exact ⟨rfl, rfl⟩))
  (λos started H enc _ => aKd os started H enc)
theorem card : Rows.RewriteSaysCardSaid :=
 Claim7.holds_tied_plain_at .later [] [.data, .pinned, .pinned] true Rows.rewriteSaysCard.stood.harness Rows.rewriteSaysCard.stood.looks aL7 (λ_ h => by cases h) (by kernel_rfl) (λ_ h => by cases h) rewriteSays_row_tie rfl ⟨rfl, rfl⟩ (by kernel_rfl) rfl
  (λf fn hf hfn => by
   obtain rfl : f = 5 := Option.some.inj ((show Tryz.prog.funcNamed Rows.rewriteSaysRow.func = some 5 by kernel_rfl).symm.trans hf) |>.symm
   obtain rfl : fn = Tryz.f5 := (Option.some.inj (Tryz.func5.symm.trans hfn)).symm
   exact ⟨by kernel_rfl, λj t ht => by
    rw [Tryz.params5] at ht
    have hm : t ∈ [25, 48, 3] := by simpa using Array.mem_of_getElem? ht
    have hall : ([25, 48, 3].all λu => !Tryz.prog.wantsStandIn u) = true := by kernel_rfl
    exact (show Tryz.prog.wantsStandIn t = false by
     rw [List.all_eq_true] at hall
     simpa using hall t hm)⟩)
  (by kernel_rfl)
end Go.Proofs.YtbbfcbodhmeanaaGreatDoor.rewriteSays
namespace Go.Proofs.YtbbfcbodhmeanaaGreatDoor
theorem rewriteSays_holds : Rows.RewriteSaysCardSaid := rewriteSays.card
#print axioms rewriteSays_holds
end Go.Proofs.YtbbfcbodhmeanaaGreatDoor
