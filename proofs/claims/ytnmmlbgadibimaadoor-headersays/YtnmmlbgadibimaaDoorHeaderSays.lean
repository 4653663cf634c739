/- The law HeaderSays answers true at all fields, bytes and texts: fields are checked, printed and asked for, bytes read as some, a value taken apart, as the reference says, errors too. Premises: the card's own (the listed tables of unicode and unicode/utf8 as the program's text lays them). -/
import Derived.Test.YtnmmlbgadibimaaDoorHSaysLaw
import Derived.Test.YtnmmlbgadibimaaDoorHOpen
import Derived.Test.YtnmmlbgadibimaaDoorEFold
import Derived.Test.YtnmmlbgadibimaaDoorTabs
import Derived.Test.YtnmmlbgadibimaaDoorShaped
import Derived.Test.YtnmmlbgadibimaaDoorTie
import Derived.Test.YtnmmlbgadibimaaDoorCards
import Derived.HandedShaped
import Derived.Shelf.Vars
import Derived.Lay
import Derived.SevenTiedAt
import Derived.Stop.Joined
import Derived.WalkKit
import Derived.ProofKit
import Derived.OpenShut
import Derived.ShutString
import Derived.ChangeOld
import Derived.Below
namespace Go.Proofs.YtnmmlbgadibimaaDoor.headerSays
open Go.ChangeShapes Go.WideShapes Go.ChangeAt Go.RowKit
open Go.ChangeMaps (open_string shut_string)
set_option linter.unusedVariables false

theorem hsays_full (p0 p1 : Option Addr) (n0 c0 n1 c1 : Nat) (l : List FV) (Lb : List UInt8) (nm s : ByteArray) (e0 : n0 = l.length) (e1 : n1 = Lb.length) (w : World)
    (hm0 : n0 ≤ maxLen) (hl : FLen l) (hr0 : FRow w p0 l) (hr1 : BRow w p1 Lb) (hp1 : p1 = none → n1 = 0 ∧ c1 = 0) (hc1 : n1 ≤ c1) (hc1m : c1 ≤ maxLen) (hn : nm.size ≤ maxLen) (hs : s.size ≤ maxLen)
    (hT : FoldTabs w ∧ Lib.Utf8Tabs 4 5 w) :
    Calls Tryd.prog 7 #[.slice p0 n0 c0, .slice p1 n1 c1, .string nm, .string s] w fun e w' => e = .returned (.bool true) ∧ Below w.heap.size w w' :=
  hsays_any (fun x => eqF x.data.toList nm.data.toList) p0 p1 n0 c0 n1 c1 l Lb nm s e0 e1 w hm0 hl hr0 hr1 hp1 hc1 hc1m hs
    (fun f hf w' hb => efold_any f.1 nm w' (hl f hf).1 hn (hT.1.below hb) (Utf8Tabs_below hT.2 hb)) (fun w' hb => Utf8Tabs_below hT.2 hb)

set_option maxRecDepth 100000 in
theorem lifted (os : Os) (started : os.Started) (H : Type) (enc : TypeId × Value → H) :
    ReturnsInHanded {} Tryd.checked os 7 .any (fun w args => (Rows.headerSaysSpec.pre enc Tryd.prog Tryd.f7 Rows.headerSaysRow.domain false w args ∧ laidMetH Tryd.prog Rows.headerSaysRow.laid w) ∧ sizedMet enc Tryd.prog Tryd.f7 (OpenSpec.ofChange Rows.headerSaysSpec) false w args)
      (Rows.headerSaysSpec.post enc Tryd.prog Tryd.f7 false true false false) := by
  refine handed_sized (C := Tryd.checked) (X := fun w _ => laidMetH Tryd.prog Rows.headerSaysRow.laid w) (fun _ _ _ hh h => h.of_heap hh) own started (by kernel_rfl) Tryd.func7
    (ChangeSpec.witness_shaped (enc := enc) (C := Tryd.checked) (os := os) (X := fun w _ => laidMetH Tryd.prog Rows.headerSaysRow.laid w) false (World.laidAll Tryd.prog os Rows.headerSaysRow.laid) #[.slice none 0 0, .slice none 0 0, .string ByteArray.empty, .string ByteArray.empty] 8 (World.laidAll_os _ _ _)
      (World.shaped_of_ZipB (by kernel_rfl) (by kernel_rfl)) (by kernel_rfl) (by kernel_rfl) (by kernel_rfl)
      (by rw [MakeChecks.laidMetH_plain _ _ _ (by kernel_rfl)]; exact laidMet_laidAll _ (by kernel_rfl) (by kernel_rfl))) ?_
  intro W base args ds gs before hval0 hW hL hz hsh
  have hval : ∀ (j : Nat) t v, Tryd.f7.params[j]? = some t → args[j]? = some v → Value.okWide Tryd.prog W .any base t v := hval0
  have hW' := hW
  obtain ⟨p, q, hA0, hV, rfl, hfz, hnd⟩ := hW
  have hA : DataW.TrodAll enc Tryd.prog W 0 (fun _ => true) true Tryd.f7.params.toList args.toList ds p := hA0
  rw [Tryd.params7] at hA hval
  obtain ⟨v0, vs0, d0, ds0, p0, q0, hargs, rfl, rfl, h0, tl0⟩ := trodAll_cons hA
  obtain ⟨v1, vs1, d1, ds1, p1, q1, rfl, rfl, rfl, h1, tl1⟩ := trodAll_cons tl0
  obtain ⟨v2, vs2, d2, ds2, p2, q2, rfl, rfl, rfl, h2, tl2⟩ := trodAll_cons tl1
  obtain ⟨v3, vs3, d3, ds3, p3, q3, rfl, rfl, rfl, h3, tl3⟩ := trodAll_cons tl2
  obtain ⟨rfl, rfl, rfl⟩ := trodAll_nil tl3
  obtain rfl : args = #[v0, v1, v2, v3] := by cases args; simp_all
  obtain ⟨rfl, rfl⟩ := trodVars_none hV
  have k0 := h0
  have lt0 : ∀ x ∈ p0, x.block < W.heap.size := by obtain ⟨m, hm⟩ := k0; exact DataW.trod_lt m _ _ _ hm
  obtain ⟨a0, len0, cap0, rfl⟩ := okWide_slice Tryd.underlying40 (hval 0 40 v0 rfl rfl)
  obtain ⟨L0, e0, c0, m0, n0, r0, l0⟩ : ∃ l : List FV, l.length = len0 ∧ len0 ≤ cap0 ∧ cap0 ≤ maxLen ∧ (a0 = none → len0 = 0 ∧ cap0 = 0) ∧ FRow W a0 l ∧ FLen l := by
    obtain ⟨fuel, hf⟩ := h0
    exact fields_open hf
  have k1 := h1
  have lt1 : ∀ x ∈ p1, x.block < W.heap.size := by obtain ⟨m, hm⟩ := k1; exact DataW.trod_lt m _ _ _ hm
  obtain ⟨a1, len1, cap1, rfl⟩ := okWide_slice Tryd.underlying22 (hval 1 22 v1 rfl rfl)
  obtain ⟨L1, e1, c1, m1, n1, r1⟩ : ∃ L : List UInt8, L.length = len1 ∧ len1 ≤ cap1 ∧ cap1 ≤ maxLen ∧ (a1 = none → len1 = 0 ∧ cap1 = 0) ∧ BRow W a1 L := by
    have : ∃ zs, IsRow .u8 W a1 len1 cap1 zs := by
      obtain ⟨fuel, hf⟩ := h1
      rcases open_ints Tryd.underlying22 Tryd.underlying5 (by kernel_rfl) hf with ⟨hcs, _⟩ | ⟨x, l, c, zs, hcs, _, hl, hm, hz, _, hcell, hwz⟩
      · simp [Value.cells] at hcs
        obtain ⟨rfl, rfl, rfl⟩ := hcs
        exact ⟨[], .inl ⟨rfl, rfl, rfl, rfl⟩⟩
      · simp [Value.cells] at hcs
        obtain ⟨rfl, rfl, rfl⟩ := hcs
        exact ⟨zs, .inr ⟨_, rfl, hl, hm, by simpa using hz, hcell, hwz⟩⟩
    obtain ⟨zs, hzs⟩ := this
    exact isRow_bytes hzs
  have k2 := h2
  have lt2 : ∀ x ∈ p2, x.block < W.heap.size := by obtain ⟨m, hm⟩ := k2; exact DataW.trod_lt m _ _ _ hm
  obtain ⟨s2, rfl, rfl, rfl, w2⟩ := open_string Tryd.underlying9 (hval 2 9 v2 rfl rfl) h2
  have k3 := h3
  have lt3 : ∀ x ∈ p3, x.block < W.heap.size := by obtain ⟨m, hm⟩ := k3; exact DataW.trod_lt m _ _ _ hm
  obtain ⟨s3, rfl, rfl, rfl, w3⟩ := open_string Tryd.underlying9 (hval 3 9 v3 rfl rfl) h3
  clear hA0 hval0
  obtain ⟨m, hm⟩ := maxLen_cell hsh
  refine (hsays_full a0 a1 len0 cap0 len1 cap1 L0 L1 s2 s3 e0.symm e1.symm W (Nat.le_trans c0 m0) l0 r0 r1 n1 c1 m1 w2 w3 (tabs_laid hL)).mono fun e W' ⟨he, bel⟩ => ?_
  subst he
  exact ⟨_, rfl, _, _, _, [], _, [], hW', trodAll_mk1 (shut_bool Tryd.underlying4 _), (trodAll_cons_mk (Below.trod laidOut (by kernel_rfl) (of_decide_eq_true (by kernel_rfl)) k0 bel lt0) (trodAll_cons_mk (Below.trod laidOut (by kernel_rfl) (of_decide_eq_true (by kernel_rfl)) k1 bel lt1) (trodAll_cons_mk (shut_string Tryd.underlying9 w2) (trodAll_cons_mk (shut_string Tryd.underlying9 w3) trodAll_mk0)))), rfl, bel.frame _, fun h => by cases h⟩

theorem over : Rows.headerSaysRow.holds Tryd.pinned (OpenSpec.ofChange Rows.headerSaysSpec) :=
  OpenClaim.holds_of_wide 7 Tryd.f7 rfl rfl rfl rfl rfl rfl rfl ⟨rfl, rfl, rfl, rfl, rfl⟩ rfl rfl rfl rfl rfl (by kernel_rfl) Tryd.func7 (by kernel_rfl)
    (of_decide_eq_true (by kernel_rfl)) (by unfold Func.isWrapper; first | (rw [if_pos (by decide +kernel)]; kernel_rfl) | (rw [if_neg (by decide +kernel)]; exact ⟨rfl, rfl⟩))
    (fun os started H enc _ => lifted os started H enc)

theorem card : Rows.HeaderSaysCardSaid :=
  Claim7.holds_tied_plain_at .later [] [.data, .data, .data, .pinned, .pinned] true Rows.headerSaysCard.stood.harness true over (fun _ h => by cases h) (by kernel_rfl) (fun _ h => by cases h) headerSays_row_tie rfl ⟨rfl, rfl⟩ (by kernel_rfl) rfl
    (fun f fn hf hfn => by
      obtain rfl : f = 7 := Option.some.inj ((show Tryd.prog.funcNamed Rows.headerSaysRow.func = some 7 by kernel_rfl).symm.trans hf) |>.symm
      obtain rfl : fn = Tryd.f7 := (Option.some.inj (Tryd.func7.symm.trans hfn)).symm
      exact ⟨by kernel_rfl, fun j t ht => by
        rw [Tryd.params7] at ht
        have hm : t ∈ [40, 22, 9, 9] := by simpa using Array.mem_of_getElem? ht
        have hall : ([40, 22, 9, 9].all fun u => !Tryd.prog.wantsStandIn u) = true := by kernel_rfl
        exact (show Tryd.prog.wantsStandIn t = false by
          rw [List.all_eq_true] at hall
          simpa using hall t hm)⟩)
    (by kernel_rfl)
end Go.Proofs.YtnmmlbgadibimaaDoor.headerSays
namespace Go.Proofs.YtnmmlbgadibimaaDoor
/-- The statement. -/
theorem headerSays_holds : Rows.HeaderSaysCardSaid := headerSays.card
#print axioms headerSays_holds
end Go.Proofs.YtnmmlbgadibimaaDoor
