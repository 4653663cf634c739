/- LinkSays answers true at every page and every list of texts that are not too long. -/
import Derived.Test.YtdlnlepecdcmjaaDoorXlinksaysupto44
import Derived.Test.YtdlnlepecdcmjaaDoorXlinksaysupto45
import Derived.Test.YtdlnlepecdcmjaaDoorXlinksaysupto9
import Derived.Lib.LaidCase
import Derived.Lib.LaidU8T
import Derived.Lib.LaidTab
import Derived.LaidByTextLater
import Derived.Test.YtdlnlepecdcmjaaDoorXlinksaysupto1
import Derived.Deep.Strs
import Derived.Lib.Join
namespace Go.Proofs.YtdlnlepecdcmjaaDoor
open Go.RowKit

theorem put_like (b : List UInt8) (ts : List (List UInt8)) : putP lowT b ts = putP smallU b ts := by
  unfold putP
  rw [show findP lowT b = findP smallU b from find_like b]
def lnkO (N : Nat) (r : Option (List LK)) : List L3 := (r.getD []).map (t3 N)
def errO (r : Option (List LK)) : Int := if r.isSome = true then 0 else 2
theorem find_shape {w w' : World} {N : Nat} {r : Option (List LK)} {e : Ending} (h : FindPost w N r e w') : ∃ p c, e = .returned (.tuple #[.slice p (lnkO N r).length c, .int .i64 (errO r)]) ∧ Below w.heap.size w w' ∧ T3Row w' p (lnkO N r).length (lnkO N r) := by
  obtain ⟨hb, h⟩ := h
  cases r with
  | none => exact ⟨none, 0, h, hb, rfl, fun h => absurd rfl h⟩
  | some l =>
    obtain ⟨v, rfl, ho⟩ := h
    obtain ⟨p, c, rfl, _, _, _, hk⟩ := owned_links ho
    have e1 : (lnkO N (some l)).length = l.length := by simp [lnkO]
    refine ⟨p, c, by rw [e1]; rfl, hb, ?_⟩
    rw [e1]
    exact hk.t3
theorem put_shape {w w' : World} {r : List UInt8 × Nat} {e : Ending} (h : PutPost w r e w') (hr : r.2 ≠ 0 → r.1 = []) : ∃ p c, e = .returned (.tuple #[.slice p r.1.length c, .int .i64 (r.2 : Int)]) ∧ Below w.heap.size w w' ∧ BRow w' p r.1 := by
  obtain ⟨hb, h | h⟩ := h
  · have h1 := hr h.1
    exact ⟨none, 0, by rw [h1]; exact h.2, hb, fun hne => absurd h1 hne⟩
  · obtain ⟨h0, v, rfl, ho⟩ := h
    obtain ⟨p, c, rfl, _, _, _, hrow⟩ := owned_row ho
    exact ⟨p, c, by rw [h0]; rfl, hb, hrow⟩
theorem put_err (low : List UInt8 → List UInt8) (b : List UInt8) (ts : List (List UInt8)) : (putP low b ts).2 ≠ 0 → (putP low b ts).1 = [] := by
  unfold putP
  cases findP low b with
  | none => intro _; rfl
  | some l =>
    simp only
    split
    · intro _; rfl
    · split
      · intro _; rfl
      · split
        · intro _; rfl
        · intro h; exact absurd rfl h
theorem put_len (low : List UInt8 → List UInt8) (b : List UInt8) (ts : List (List UInt8)) : (putP low b ts).1.length ≤ 4000 := by
  unfold putP
  cases findP low b with
  | none => exact Nat.zero_le _
  | some l =>
    simp only
    split
    · exact Nat.zero_le _
    · split
      · exact Nat.zero_le _
      · split
        · exact Nat.zero_le _
        · simp only; omega
theorem lnk_len (low : List UInt8 → List UInt8) (N : Nat) (b : List UInt8) : (lnkO N (findP low b)).length ≤ 60 := by
  unfold lnkO
  rw [List.length_map]
  cases h : findP low b with
  | none => exact Nat.zero_le _
  | some l => exact (find_ord low b l h).2.1
set_option maxHeartbeats 4000000 in
set_option maxRecDepth 100000 in
theorem linkSays_any (q : Option Addr) (n c : Nat) (b : List UInt8) (en : n = b.length) (hnc : n ≤ c) (hcm : c ≤ maxLen) (a2 : Option Addr) (m c2 : Nat) (ts : List ByteArray) (et : m = ts.length) (hmm : m ≤ maxLen) (htm : ∀ t ∈ ts, t.size ≤ maxLen) (hts : sumL (tls ts) ≤ 1100000) (w : World) (HE : LEnv w) (hr : BRow w q b) (hq : q = none → n = 0 ∧ c = 0) (hs : TxRow w a2 ts) :
    Calls Tryd.prog 3 #[.slice q n c, .slice a2 m c2] w fun e w' => e = .returned (.bool true) ∧ Below w.heap.size w w' := by
  have CF : Hid (Calls Tryd.prog 4 #[.slice q n c] w fun e w' => ∃ p c, e = .returned (.tuple #[.slice p (lnkO b.length (findP smallU b)).length c, .int .i64 (errO (findP smallU b))]) ∧ Below w.heap.size w w' ∧ T3Row w' p (lnkO b.length (findP smallU b)).length (lnkO b.length (findP smallU b))) := (find_any w HE q n c b en w (Below.refl _ _) hr hq).mono fun e w' h => by
    rw [show findP lowT b = findP smallU b from find_like b] at h
    exact find_shape h
  have CP : Hid (∀ W, Below w.heap.size w W → Calls Tryd.prog 5 #[.slice q n c, .slice a2 m c2] W fun e w' => ∃ p c, e = .returned (.tuple #[.slice p (putP smallU b (tls ts)).1.length c, .int .i64 ((putP smallU b (tls ts)).2 : Int)]) ∧ Below W.heap.size W w' ∧ BRow w' p (putP smallU b (tls ts)).1) := fun W hW => (put_any w HE q n c b en hnc hcm a2 m c2 ts et hmm htm W hW (hr.below hW) hq (hs.below hW)).mono fun e w' h => by
    rw [put_like] at h
    exact put_shape h (put_err _ _ _)
  have CL : Hid (∀ W, Below w.heap.size w W → Calls Tryd.prog 6 #[] W fun e w' => e = .returned (.bool true) ∧ Below W.heap.size W w') := fun W hW => linked_any w HE W hW
  by_cases h4 : 4000 < n
  · have hf : findP smallU b = none := by unfold findP; rw [if_pos (by omega)]
    have hp : putP smallU b (tls ts) = ([], 2) := by unfold putP; rw [hf]
    rw [hf] at CF
    rw [hp] at CP
    have h4' : (4000 : Int) < (n : Int) := by omega
    have e0 : (lnkO b.length none).length = 0 := rfl
    have e1 : errO none = 2 := rfl
    rw [e0, e1] at CF
    have e2 : (([] : List UInt8), 2).1.length = 0 := rfl
    clear HE hr hq hs hts htm hf hp en et
    go_enter Tryd.func3, Tryd.ntmps3
    go_wp2_with fail
    refine CF.out.mono ?_
    rintro e w1 ⟨p1, c1, rfl, hb1, _⟩
    clear CF
    go_wp2_with fail
    refine (CP.out _ hb1).mono ?_
    rintro e w2 ⟨p2, c2', rfl, hb2, _⟩
    have hb12 : Below w.heap.size w w2 := hb1.trans (hb2.mono hb1.size)
    clear CP hb1 hb2
    go_wp2_with fail
    refine (CL.out _ hb12).mono ?_
    rintro e w3 ⟨rfl, hb3⟩
    have hb13 : Below w.heap.size w w3 := hb12.trans (hb3.mono hb12.size)
    clear hb12 hb3
    go_wp2_with fail
    refine (CL.out _ hb13).mono ?_
    rintro e w4 ⟨rfl, hb4⟩
    have HB : Hid (Below w.heap.size w w4) := hb13.trans (hb4.mono hb13.size)
    clear hb13 hb4 CL
    go_wp2_with fail
    go_ret
    exact ⟨rfl, HB.out⟩
  · have h4' : ¬ (4000 : Int) < (n : Int) := by omega
    have CLo : Hid (∀ W, Below w.heap.size w W → Calls Tryd.prog 7 #[.slice q n c] W fun e w' => ∃ p c, e = .returned (.tuple #[.slice p (lnkO b.length (findP smallU b)).length c, .int .i64 (errO (findP smallU b))]) ∧ Below W.heap.size W w' ∧ T3Row w' p (lnkO b.length (findP smallU b)).length (lnkO b.length (findP smallU b))) := fun W hW => (rlinks_any w HE q n c b en (by omega) W hW (hr.below hW) hq).mono fun e w' h => find_shape h
    have CPi : Hid (∀ W, Below w.heap.size w W → Calls Tryd.prog 8 #[.slice q n c, .slice a2 m c2] W fun e w' => ∃ p c, e = .returned (.tuple #[.slice p (putP smallU b (tls ts)).1.length c, .int .i64 ((putP smallU b (tls ts)).2 : Int)]) ∧ Below W.heap.size W w' ∧ BRow w' p (putP smallU b (tls ts)).1) := fun W hW => (rput_any w HE q n c b en (by omega) a2 m c2 ts et hmm hts W hW (hr.below hW) hq (hs.below hW)).mono fun e w' h => put_shape h (put_err _ _ _)
    have hl60 := lnk_len smallU b.length b
    have hp4 := put_len smallU b (tls ts)
    generalize lnkO b.length (findP smallU b) = LL at *
    generalize errO (findP smallU b) = EE at *
    generalize (putP smallU b (tls ts)).1 = CC at *
    generalize ((putP smallU b (tls ts)).2 : Int) = FF at *
    clear HE hr hq hs hts htm en et
    have hee : (EE == EE) = true := by simp
    have hff : (FF == FF) = true := by simp
    go_enter Tryd.func3, Tryd.ntmps3
    go_wp2_with fail
    refine CF.out.mono ?_
    rintro e w1 ⟨p1, c1, rfl, hb1, t1⟩
    clear CF
    go_wp2_with fail
    refine (CP.out _ hb1).mono ?_
    rintro e w2 ⟨p2, c2', rfl, hb2, r2⟩
    have hb12 : Below w.heap.size w w2 := hb1.trans (hb2.mono hb1.size)
    have t2 := t1.below hb2
    clear CP hb1 hb2 t1
    go_wp2_with fail
    refine (CL.out _ hb12).mono ?_
    rintro e w3 ⟨rfl, hb3⟩
    have hb13 : Below w.heap.size w w3 := hb12.trans (hb3.mono hb12.size)
    have t3 := t2.below hb3
    have r3 := r2.below hb3
    clear hb12 hb3 t2 r2 CL
    go_wp2_with fail
    refine (CLo.out _ hb13).mono ?_
    rintro e w4 ⟨p4, c4, rfl, hb4, u4⟩
    have hb14 : Below w.heap.size w w4 := hb13.trans (hb4.mono hb13.size)
    have t4 := t3.below hb4
    have r4 := r3.below hb4
    clear hb13 hb4 t3 r3 CLo
    go_wp2_with fail
    refine (CPi.out _ hb14).mono ?_
    rintro e w5 ⟨p5, c5, rfl, hb5, s5⟩
    have HB : Hid (Below w.heap.size w w5) := hb14.trans (hb5.mono hb14.size)
    have HQ1 : Hid (Calls Tryd.prog 9 #[.slice p1 LL.length c1, .slice p4 LL.length c4] w5 fun e w' => e = .returned (.bool true) ∧ ∃ q, w' = w5.drewN q) := (equalLinks p1 p4 LL.length LL.length c1 c4 LL LL w5 (by omega) (by omega) (t4.below hb5) (u4.below hb5)).mono fun e w' h => by
      rw [decide_eq_true rfl] at h
      exact h
    have HQ2 : Hid (∀ k, Calls Tryd.prog 10 #[.slice p2 CC.length c2', .slice p5 CC.length c5] (w5.drewN k) fun e w' => e = .returned (.bool true) ∧ ∃ q, w' = (w5.drewN k).drewN q) := fun k => (equalBytes p2 p5 CC.length CC.length c2' c5 (nums CC) (nums CC) (w5.drewN k) (by unfold maxLen; omega) (by unfold maxLen; omega) (brow_row (r4.below (hb5.trans (below_many (Below.refl _ _) k)))) (brow_row (s5.below (below_many (Below.refl _ _) k)))).mono fun e w' h => by
      rw [decide_eq_true rfl] at h
      exact h
    clear hb14 hb5 t4 r4 u4 s5 CPi
    go_wp2_with fail
    refine HQ1.out.mono ?_
    rintro e w6 ⟨rfl, k6, rfl⟩
    go_wp2_with fail
    refine (HQ2.out k6).mono ?_
    rintro e w7 ⟨rfl, k7, rfl⟩
    go_wp2_with fail
    go_ret
    exact ⟨rfl, below_many HB.out _⟩
end Go.Proofs.YtdlnlepecdcmjaaDoor

/- The listed tables of unicode and unicode/utf8, read off a row's list: they lie in memory as the plain functions have them, in each world above. No function of the program. -/
namespace Go.Proofs.YtdlnlepecdcmjaaDoor
open Go.RowKit Go.Lib Go.Shelf

theorem utf8_laidL {w : World} (h3 : VarReads Tryd.prog w "unicode/utf8.first" firstData) (h4 : VarReads Tryd.prog w "unicode/utf8.acceptRanges" acceptData) : Lib.Utf8Tabs 1 2 w :=
  utf8Tabs_of_readsT (ρ := Tryd.lays159_ren) { Tryd.lays159 with } ⟨by kernel_rfl, by kernel_rfl, by kernel_rfl, by kernel_rfl, by kernel_rfl, by kernel_rfl, by kernel_rfl⟩ h3 h4
theorem case_laidL {w : World} (h : VarReads Tryd.prog w "unicode.CaseRanges" caseData) : CaseVar 3 caseA w :=
  caseVar_of_reads (ρ := Tryd.lays159_ren) { Tryd.lays159 with } Tryd.lays159.t206 ⟨by kernel_rfl, by kernel_rfl, by kernel_rfl, by kernel_rfl, by kernel_rfl, by kernel_rfl⟩ h
theorem lenv_laid {W : World} (h : laidMetH Tryd.prog [("unicode/utf8.acceptRanges", Rows.laid_unicode_utf8_acceptRanges), ("unicode.CaseRanges", Rows.laid_unicode_CaseRanges), ("unicode/utf8.first", Rows.laid_unicode_utf8_first)] W) (m : Int) (hm : W.cell? ⟨0, 0, none⟩ = some (.int .i64 m)) : LEnv W := by
  rw [MakeChecks.laidMetH_plain _ _ _ (by kernel_rfl)] at h
  have h1 := utf8_laidL (laidMet.reads h (List.mem_of_getElem? (i := 2) (by kernel_rfl))) (laidMet.reads h (List.mem_of_getElem? (i := 0) (by kernel_rfl)))
  have h2 := case_laidL (laidMet.reads h (List.mem_of_getElem? (i := 1) (by kernel_rfl)))
  intro W' hb
  exact ⟨⟨m, (hb.cell (p := ⟨0, 0, none⟩) (World.block_lt_of_cell? W _ hm)).trans hm⟩, CaseVar_below h2 hb, Utf8Tabs_below h1 hb⟩
end Go.Proofs.YtdlnlepecdcmjaaDoor

/- Texts that lie in memory, a list of them that came in. No function of the program. -/
namespace Go.Proofs.YtdlnlepecdcmjaaDoor
open Go.RowKit

/-- The texts l lie behind the address p. -/
def SRow (w : World) (p : Option Addr) (l : List ByteArray) : Prop :=
  l ≠ [] → ∃ b o, p = some ⟨b, o, none⟩ ∧ ∀ i, i < l.length → w.cell? ⟨b, o + i, none⟩ = some (.string (l.getD i default))
def SLen (l : List ByteArray) : Prop := ∀ s ∈ l, s.size ≤ maxLen
theorem SRow.below {w w' : World} {p : Option Addr} {l : List ByteArray} (h : SRow w p l) (hb : Below w.heap.size w w') : SRow w' p l := by
  intro hne
  obtain ⟨b, o, rfl, hc⟩ := h hne
  refine ⟨b, o, rfl, fun i hi => ?_⟩
  have := hc i hi
  rw [hb.cell (p := ⟨b, o + i, none⟩) (World.block_lt_of_cell? w _ this)]
  exact this
theorem sv_mem (l : List ByteArray) (k : Nat) (h : k < l.length) : l.getD k default ∈ l := by
  simp [List.getD_eq_getElem?_getD, List.getElem?_eq_getElem h]

/-- A list of texts that came in. -/
theorem strs_open {H : Type} {enc : TypeId × Value → H} {W : World} {base : Nat} {spare : Nat → Bool} {held : Bool} {fuel : Nat} {a0 : Option Addr} {len cap : Nat} {x : DataW H × List MemPlace}
    (h : DataW.trod enc Tryd.prog W base spare held fuel 23 [.slice a0 len cap] = some x) :
    ∃ l : List ByteArray, l.length = len ∧ len ≤ cap ∧ cap ≤ maxLen ∧ (a0 = none → len = 0 ∧ cap = 0) ∧ SRow W a0 l ∧ SLen l := by
  rcases Go.Deep.open_strs Tryd.underlying23 Tryd.underlying9 (by kernel_rfl) h with ⟨hcs, _⟩ | ⟨a, l, c, m, F, hcs, _, hl, hm, hmm, _, hF⟩
  · simp at hcs
    obtain ⟨rfl, rfl, rfl⟩ := hcs
    exact ⟨[], rfl, Nat.le_refl _, by decide, fun _ => ⟨rfl, rfl⟩, fun h => absurd rfl h, fun f hf => by cases hf⟩
  · simp at hcs
    obtain ⟨rfl, rfl, rfl⟩ := hcs
    have hlm : len ≤ m := by rw [hmm]; split <;> omega
    refine ⟨(List.range len).map F, by simp, hl, hm, (fun h => by cases h), fun hne => ?_, fun f hf => ?_⟩
    · have hpos : 0 < len := by
        rcases Nat.eq_zero_or_pos len with e | e
        · subst e; exact absurd rfl hne
        · exact e
      obtain ⟨b, o, spot⟩ := a
      have hspot : spot = none := by simpa [Addr.add] using World.cell?_spot (hF 0 (by omega)).1
      subst hspot
      refine ⟨b, o, rfl, fun i hi => ?_⟩
      have hi' : i < len := by simpa using hi
      have e1 : ((List.range len).map F).getD i default = F i := by simp [List.getD_eq_getElem?_getD, hi']
      have h1 := (hF i (by omega)).1
      rw [Addr.add_lit] at h1
      rw [e1]
      exact h1
    · obtain ⟨i, hi, rfl⟩ := List.mem_map.1 hf
      exact (hF i (Nat.lt_of_lt_of_le (by simpa using hi) hlm)).2
end Go.Proofs.YtdlnlepecdcmjaaDoor

/- What a list of texts that came in may weigh, where the reading has a bound: the bytes of all, and how many they are. No function of the program. -/
namespace Go.Proofs.YtdlnlepecdcmjaaDoor
open Go.RowKit

theorem bulk_strs {H : Type} (F : Nat → ByteArray) : ∀ (l : List Nat), Rows.uptoBulkAll (H := H) (l.map fun i => .lit (.string (F i).data.toList)) = Lib.lens ((l.map F).map (·.data.toList)) + l.length
  | [] => by simp [Rows.uptoBulkAll, Lib.lens]
  | i :: l => by
    have ih := bulk_strs (H := H) F l
    simp only [List.map_cons, Rows.uptoBulkAll, Rows.uptoBulk, Lib.lens, List.sum_cons, List.length_cons] at ih ⊢
    omega
/-- A list of texts that came in, and its weight. -/
theorem strs_open2 {H : Type} {enc : TypeId × Value → H} {W : World} {base : Nat} {spare : Nat → Bool} {held : Bool} {fuel : Nat} {a0 : Option Addr} {len cap : Nat} {x : DataW H × List MemPlace}
    (h : DataW.trod enc Tryd.prog W base spare held fuel 23 [.slice a0 len cap] = some x) :
    ∃ l : List ByteArray, l.length = len ∧ len ≤ cap ∧ cap ≤ maxLen ∧ (a0 = none → len = 0 ∧ cap = 0) ∧ SRow W a0 l ∧ SLen l ∧ Lib.lens (l.map (·.data.toList)) + l.length ≤ Rows.uptoBulk x.1 := by
  rcases Go.Deep.open_strs Tryd.underlying23 Tryd.underlying9 (by kernel_rfl) h with ⟨hcs, _⟩ | ⟨a, l, c, m, F, hcs, _, hl, hm, hmm, hx, hF⟩
  · simp at hcs
    obtain ⟨rfl, rfl, rfl⟩ := hcs
    exact ⟨[], rfl, Nat.le_refl _, by decide, fun _ => ⟨rfl, rfl⟩, fun h => absurd rfl h, (fun f hf => by cases hf), by simp [Lib.lens]⟩
  · simp at hcs
    obtain ⟨rfl, rfl, rfl⟩ := hcs
    have hlm : len ≤ m := by rw [hmm]; split <;> omega
    refine ⟨(List.range len).map F, by simp, hl, hm, (fun h => by cases h), fun hne => ?_, fun f hf => ?_, ?_⟩
    · have hpos : 0 < len := by
        rcases Nat.eq_zero_or_pos len with e | e
        · subst e; exact absurd rfl hne
        · exact e
      obtain ⟨b, o, spot⟩ := a
      have hspot : spot = none := by simpa [Addr.add] using World.cell?_spot (hF 0 (by omega)).1
      subst hspot
      refine ⟨b, o, rfl, fun i hi => ?_⟩
      have hi' : i < len := by simpa using hi
      have e1 : ((List.range len).map F).getD i default = F i := by simp [List.getD_eq_getElem?_getD, hi']
      have h1 := (hF i (by omega)).1
      rw [Addr.add_lit] at h1
      rw [e1]
      exact h1
    · obtain ⟨i, hi, rfl⟩ := List.mem_map.1 hf
      exact (hF i (Nat.lt_of_lt_of_le (by simpa using hi) hlm)).2
    · have := bulk_strs (H := H) F (List.range len)
      rw [hx]
      simp only [Rows.uptoBulk]
      simp only [List.length_map, List.length_range] at this ⊢
      omega
end Go.Proofs.YtdlnlepecdcmjaaDoor
