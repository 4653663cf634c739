/- The library's sets of ASCII bytes: what is in one. No function of the program. -/
import Derived.Test.YtlndhdimamnnlaaGreatDoorXmimewrapsupto4
import Derived.Test.YtlndhdimamnnlaaGreatDoorXmimewrapsupto5
import Derived.Deep.WholeRow
import Derived.Test.YtlndhdimamnnlaaGreatDoorXmimewrapsupto1
import Derived.Test.YtlndhdimamnnlaaGreatDoorXmimewrapsupto2
import Derived.Lib.AsciiSet
import Derived.Laws.ResultCell
namespace Go.Proofs.YtlndhdimamnnlaaGreatDoor
open Go.RowKit

theorem strt_eq {s : ByteArray} {l : List UInt8} (h : s.data.toList = l) : Value.string s = .string ⟨l.toArray⟩ := by
  subst h
  rfl

theorem ba_tail (t : ByteArray) (n : Nat) (h : t.size = n + 1) : ∃ (c : UInt8) (t8 : ByteArray), t[n] = c ∧ t.extract 0 n = t8 ∧ t8.size = n ∧ t.data.toList = t8.data.toList ++ [c] := by
  have hl : t.data.toList.length = n + 1 := by rw [Array.length_toList]; exact h
  refine ⟨_, _, rfl, rfl, ?_, ?_⟩
  · rw [Lib.size_eq, Lib.extract_data, List.length_take]; simp; omega
  · rw [Lib.extract_data, List.drop_zero, Nat.sub_zero]
    conv => lhs; rw [← List.take_append_drop n t.data.toList]
    rw [List.drop_eq_getElem_cons (by omega), List.drop_of_length_le (by omega)]
    rfl
theorem ba_head (t : ByteArray) (n : Nat) (h : t.size = n + 1) : ∃ (c : UInt8) (t8 : ByteArray), t[0] = c ∧ t.extract 1 (n + 1) = t8 ∧ t8.size = n ∧ t.data.toList = c :: t8.data.toList := by
  have hl : t.data.toList.length = n + 1 := by rw [Array.length_toList]; exact h
  refine ⟨_, _, rfl, rfl, ?_, ?_⟩
  · rw [Lib.size_eq, Lib.extract_data, List.length_take]; simp; omega
  · rw [Lib.extract_data, List.take_of_length_le (by rw [List.length_drop]; omega)]
    conv => lhs; rw [← List.drop_zero (l := t.data.toList), List.drop_eq_getElem_cons (by omega)]
    rfl

theorem zero256 (w : World) : (zeroValue 121).run Tryz.prog w = .ok (.agg (Array.replicate 256 (.bool false))) w := by kernel_rfl

theorem in_set (g : Nat) (c : UInt8) (cc : Int) (e : cc = (c.toNat : Int)) (v : Bool) (w : World) (hc : w.cell? ⟨g, c.toNat, none⟩ = some (.bool v)) :
    Calls Tryz.prog 141 #[.pointer (some ⟨g, 0, none⟩), .int .u8 cc] w fun e w' => e = .returned (.bool v) ∧ w' = w := by
  subst e
  have := c.toNat_lt
  go_enter Tryz.func141, Tryz.ntmps141
  go_wp2
  go_ret
  exact ⟨rfl, rfl⟩

end Go.Proofs.YtlndhdimamnnlaaGreatDoor

/- strings.Trim and strings.TrimRight at a set of two or more ASCII bytes: what stands without such bytes at its ends; nothing that was there is changed. -/
namespace Go.Proofs.YtlndhdimamnnlaaGreatDoor
open Go.RowKit

set_option maxHeartbeats 1000000 in
theorem right_set (p : UInt8 → Bool) (g : Nat) (s : ByteArray) (w : World) (hs : s.size ≤ 1000000000) (hg : ∀ c : UInt8, w.cell? ⟨g, c.toNat, none⟩ = some (.bool (p c))) :
    Calls Tryz.prog 94 #[.string s, .pointer (some ⟨g, 0, none⟩)] w fun e w' => e = .returned (.string ⟨(dropEnd p s.data.toList).toArray⟩) ∧ w' = w := by
  have HG : Hid (∀ c : UInt8, w.cell? ⟨g, c.toNat, none⟩ = some (.bool (p c))) := hg
  clear hg
  go_enter Tryz.func94, Tryz.ntmps94
  go_wp2
  go_loopw [0] (fun v wr => ∃ t : ByteArray, v = .string t ∧ t.size ≤ s.size ∧ wr = w ∧ Hid (dropEnd p t.data.toList = dropEnd p s.data.toList)) (fun v _ => strLen v)
  case atStart => exact ⟨s, rfl, Nat.le_refl _, rfl, rfl⟩
  case round =>
    obtain ⟨t, rfl, hts, rfl, HT⟩ := hrel
    rcases Nat.eq_zero_or_pos t.size with h0 | h0
    · go_wp2
      go_ret
      have e : t.data.toList = [] := List.length_eq_zero_iff.1 (by rw [← Lib.size_eq]; exact h0)
      exact ⟨congrArg Ending.returned (strt_eq (by rw [← HT.out, e]; rfl)), rfl⟩
    · obtain ⟨n, hn⟩ : ∃ n, t.size = n + 1 := ⟨t.size - 1, by omega⟩
      obtain ⟨c, t8, h1, h2, h3, h4⟩ := ba_tail t n hn
      have hcell := HG.out c
      cases hb : p c
      · have HE : Hid (dropEnd p t.data.toList = t.data.toList) := by unfold Hid; rw [h4]; exact dropEnd_no p _ _ hb
        rw [hb] at hcell
        clear h4 hb
        go_wp2_with (go_at_call 141; refine (in_set g c _ rfl false _ hcell).mono ?_; rintro e w' ⟨rfl, hw'⟩; have hw'' := hw'.symm; subst hw'')
        go_ret
        exact ⟨congrArg Ending.returned (strt_eq (by rw [← HT.out, HE.out])), rfl⟩
      · have HE : Hid (dropEnd p t8.data.toList = dropEnd p t.data.toList) := by unfold Hid; rw [h4]; exact (dropEnd_yes p _ _ hb).symm
        rw [hb] at hcell
        clear h4 hb
        go_wp2_with (go_at_call 141; refine (in_set g c _ rfl true _ hcell).mono ?_; rintro e w' ⟨rfl, hw'⟩; have hw'' := hw'.symm; subst hw'')
        go_roundw
        case rel => exact ⟨t8, rfl, by omega, trivial, HE.out.trans HT.out⟩
        case measure => simp [strLen]; omega

set_option maxHeartbeats 1000000 in
theorem left_set (p : UInt8 → Bool) (g : Nat) (s : ByteArray) (w : World) (hg : ∀ c : UInt8, w.cell? ⟨g, c.toNat, none⟩ = some (.bool (p c))) :
    Calls Tryz.prog 128 #[.string s, .pointer (some ⟨g, 0, none⟩)] w fun e w' => e = .returned (.string ⟨(s.data.toList.dropWhile p).toArray⟩) ∧ w' = w := by
  have HG : Hid (∀ c : UInt8, w.cell? ⟨g, c.toNat, none⟩ = some (.bool (p c))) := hg
  clear hg
  go_enter Tryz.func128, Tryz.ntmps128
  go_wp2
  go_loopw [0] (fun v wr => ∃ t : ByteArray, v = .string t ∧ t.size ≤ s.size ∧ wr = w ∧ Hid (t.data.toList.dropWhile p = s.data.toList.dropWhile p)) (fun v _ => strLen v)
  case atStart => exact ⟨s, rfl, Nat.le_refl _, rfl, rfl⟩
  case round =>
    obtain ⟨t, rfl, hts, rfl, HT⟩ := hrel
    rcases Nat.eq_zero_or_pos t.size with h0 | h0
    · go_wp2
      go_ret
      have e : t.data.toList = [] := List.length_eq_zero_iff.1 (by rw [← Lib.size_eq]; exact h0)
      exact ⟨congrArg Ending.returned (strt_eq (by rw [← HT.out, e]; rfl)), rfl⟩
    · obtain ⟨n, hn⟩ : ∃ n, t.size = n + 1 := ⟨t.size - 1, by omega⟩
      obtain ⟨c, t8, h1, h2, h3, h4⟩ := ba_head t n hn
      have hcell := HG.out c
      cases hb : p c
      · have HE : Hid (t.data.toList.dropWhile p = t.data.toList) := by unfold Hid; rw [h4, List.dropWhile_cons, if_neg (by simp [hb])]
        rw [hb] at hcell
        clear h4 hb
        go_wp2_with (go_at_call 141; refine (in_set g c _ rfl false _ hcell).mono ?_; rintro e w' ⟨rfl, hw'⟩; have hw'' := hw'.symm; subst hw'')
        go_ret
        exact ⟨congrArg Ending.returned (strt_eq (by rw [← HT.out, HE.out])), rfl⟩
      · have HE : Hid (t8.data.toList.dropWhile p = t.data.toList.dropWhile p) := by unfold Hid; rw [h4, List.dropWhile_cons, if_pos hb]
        rw [hb] at hcell
        clear h4 hb
        go_wp2_with (go_at_call 141; refine (in_set g c _ rfl true _ hcell).mono ?_; rintro e w' ⟨rfl, hw'⟩; have hw'' := hw'.symm; subst hw'')
        go_roundw
        case rel => exact ⟨t8, rfl, by omega, trivial, HE.out.trans HT.out⟩
        case measure => simp [strLen]; omega

set_option maxHeartbeats 2000000 in
set_option maxRecDepth 100000 in
theorem trim_set (cs : ByteArray) (s : ByteArray) (w : World) (hs : s.size ≤ 1000000000) (hc2 : 2 ≤ cs.size) (hcm : cs.size ≤ 1000) (hasc : ∀ (j : Nat) (b : UInt8), cs.data.toList[j]? = some b → b.toNat < 128) :
    Calls Tryz.prog 79 #[.string s, .string cs] w fun e w' => e = .returned (.string ⟨(trimBy cs.data.toList.contains s.data.toList).toArray⟩) ∧ Below w.heap.size w w' := by
  have hcne : cs.toList.isEmpty = false := by
    rw [ByteArray.toList_eq]
    cases h : cs.data.toList with
    | nil => have := congrArg List.length h; rw [← Lib.size_eq] at this; rw [List.length_nil] at this; omega
    | cons a b => rfl
  rcases Nat.eq_zero_or_pos s.size with h0 | h0
  · have e : s.data.toList = [] := List.length_eq_zero_iff.1 (by rw [← Lib.size_eq]; exact h0)
    obtain rfl : s = ⟨#[]⟩ := ByteArray.ext (Array.toList_inj.1 e)
    clear e h0 hs
    go_enter Tryz.func79, Tryz.ntmps79
    go_wp2
    go_ret
    exact ⟨rfl, Below.refl _ _⟩
  · have hne : s.toList.isEmpty = false := by
      rw [ByteArray.toList_eq]
      cases h : s.data.toList with
      | nil => have := congrArg List.length h; rw [← Lib.size_eq] at this; rw [List.length_nil] at this; omega
      | cons a b => rfl
    have hn1 : ((cs.size : Int) == 1) = false := by rw [beq_eq_false_iff_ne]; omega
    have HM := Tryz.strings_makeASCIISet zero256 cs w (by omega) hasc
    have HS1 : Hid ((Lib.setCells cs.data.toList).size = 256) := Lib.setCells_size _
    have HS2 : Hid (∀ c : UInt8, (Lib.setCells cs.data.toList)[c.toNat]? = some (.bool (cs.data.toList.contains c))) := fun c => Lib.setCells_at _ c
    have HS3 : Hid ((Lib.setCells cs.data.toList).all (·.oneCell') = true) := Lib.setCells_one _
    generalize Lib.setCells cs.data.toList = SA at *
    have HMM : Hid (Calls Tryz.prog 93 #[.string cs] w _) := HM
    clear HM hasc
    go_enter Tryz.func79, Tryz.ntmps79
    go_wp2_with fail
    refine HMM.out.mono ?_
    rintro e w1 ⟨rfl, rfl⟩
    clear HMM
    have hA1 := HS1.out
    have hsc : (storeCells ⟨w.heap.size + 1, 0, none⟩ SA.toList 0).run Tryz.prog ((w.alloc (.cells SA 121)).alloc (.cells Tryz.zeroCells121 121)) = .ok () ((w.alloc (.cells SA 121)).alloc (.cells SA 121)) := by
      have := run_storeCells_new (P := Tryz.prog) (w.alloc (.cells SA 121)) 121 Tryz.zeroCells121 SA (by rw [hA1]; kernel_rfl) (by rw [hA1]; kernel_rfl) HS3.out
      simpa using this
    have HC : Hid (∀ c : UInt8, ((w.alloc (.cells SA 121)).alloc (.cells SA 121)).cell? ⟨w.heap.size + 1, c.toNat, none⟩ = some (.bool (cs.data.toList.contains c))) := fun c => by
      rw [World.cell?_alloc_at _ _ _ _ (by simp)]; exact HS2.out c
    have hb2 : Below w.heap.size w ((w.alloc (.cells SA 121)).alloc (.cells SA 121)) := ((Below.refl _ _).alloc (Nat.le_refl _) _).alloc (by simp) _
    go_wp2_with fail
    clear hsc
    generalize ((w.alloc (.cells SA 121)).alloc (.cells SA 121)) = w2 at *
    refine (right_set cs.data.toList.contains (w.heap.size + 1) s w2 hs HC.out).mono ?_
    rintro e w3 ⟨rfl, hw3⟩
    have hw3' := hw3.symm
    subst hw3'
    go_wp2_with fail
    refine (left_set cs.data.toList.contains (w.heap.size + 1) ⟨(dropEnd cs.data.toList.contains s.data.toList).toArray⟩ w2 HC.out).mono ?_
    rintro e w3 ⟨rfl, hw3⟩
    have hw3' := hw3.symm
    subst hw3'
    clear HC
    go_wp2
    go_ret
    exact ⟨rfl, hb2⟩
end Go.Proofs.YtlndhdimamnnlaaGreatDoor

/- Parts as they lie in memory. No function of the program. -/
namespace Go.Proofs.YtlndhdimamnnlaaGreatDoor
open Go.RowKit

/-- The seven cells of a part. -/
def PCells (w : World) (b o : Nat) (p : PT) (pb : Option Addr) (cb : Nat) (pk : Option Addr) (ck : Nat) : Prop :=
  w.cell? ⟨b, o, none⟩ = some (.string p.ty) ∧ w.cell? ⟨b, o + 1, none⟩ = some (.string p.cs) ∧ w.cell? ⟨b, o + 2, none⟩ = some (.string p.id) ∧ w.cell? ⟨b, o + 3, none⟩ = some (.string p.loc) ∧
  w.cell? ⟨b, o + 4, none⟩ = some (.int .i64 p.how) ∧ w.cell? ⟨b, o + 5, none⟩ = some (.slice pb p.body.length cb) ∧ w.cell? ⟨b, o + 6, none⟩ = some (.slice pk p.kids.length ck)
/-- Texts, bytes, parts as long as they can be. -/
def PLen (p : PT) : Prop :=
  p.ty.size ≤ maxLen ∧ p.cs.size ≤ maxLen ∧ p.id.size ≤ maxLen ∧ p.loc.size ≤ maxLen ∧ -9223372036854775808 ≤ p.how ∧ p.how ≤ 9223372036854775807 ∧ p.body.length ≤ maxLen ∧ p.kids.length ≤ maxLen
/-- What hangs at a part. -/
def PHeldK (K : Option Addr → List PT → Prop) (w : World) (p : PT) (pb : Option Addr) (cb : Nat) (pk : Option Addr) (ck : Nat) : Prop :=
  PLen p ∧ (p.body.length ≤ cb ∧ cb ≤ maxLen ∧ (pb = none → cb = 0)) ∧ BRow w pb p.body ∧ (p.kids.length ≤ ck ∧ ck ≤ maxLen ∧ (pk = none → ck = 0)) ∧ K pk p.kids
/-- Parts lie behind the address, to the depth f. -/
def KAt (w : World) : Nat → Option Addr → List PT → Prop
  | 0, _, l => l = []
  | f + 1, a, l => l ≠ [] → ∃ b o, a = some ⟨b, o, none⟩ ∧ ∀ i, i < l.length → ∃ pb cb pk ck, PCells w b (o + i * 7) (l.getD i pt0) pb cb pk ck ∧ PHeldK (KAt w f) w (l.getD i pt0) pb cb pk ck
def PHeld (w : World) (f : Nat) (p : PT) (pb : Option Addr) (cb : Nat) (pk : Option Addr) (ck : Nat) : Prop := PHeldK (KAt w f) w p pb cb pk ck
def PAt (w : World) (f : Nat) (b o : Nat) (p : PT) : Prop := ∃ pb cb pk ck, PCells w b o p pb cb pk ck ∧ PHeld w f p pb cb pk ck
/-- A part as a value. -/
def pval (p : PT) (pb : Option Addr) (cb : Nat) (pk : Option Addr) (ck : Nat) : Value :=
  .agg #[.string p.ty, .string p.cs, .string p.id, .string p.loc, .int .i64 p.how, .slice pb p.body.length cb, .slice pk p.kids.length ck]

theorem KAt.each {w : World} {f : Nat} {a : Option Addr} {l : List PT} (h : KAt w (f + 1) a l) (hne : l ≠ []) : ∃ b o, a = some ⟨b, o, none⟩ ∧ ∀ i, i < l.length → PAt w f b (o + i * 7) (l.getD i pt0) := by
  obtain ⟨b, o, e, hc⟩ := h hne
  exact ⟨b, o, e, fun i hi => hc i hi⟩
theorem KAt.mk {w : World} {f b o : Nat} {l : List PT} (h : ∀ i, i < l.length → PAt w f b (o + i * 7) (l.getD i pt0)) : KAt w (f + 1) (some ⟨b, o, none⟩) l := fun _ => ⟨b, o, rfl, fun i hi => h i hi⟩
theorem KAt.nil (w : World) (f : Nat) (a : Option Addr) : KAt w f a [] := by
  cases f with
  | zero => rfl
  | succ f => exact fun h => absurd rfl h

theorem BRow.under {w w' : World} {p : Option Addr} {l : List UInt8} (h : BRow w p l) (hb : Below w.heap.size w w') : BRow w' p l := by
  intro hne
  obtain ⟨b, o, rfl, hc⟩ := h hne
  refine ⟨b, o, rfl, fun i hi => ?_⟩
  have := hc i hi
  rw [hb.cell (p := ⟨b, o + i, none⟩) (World.block_lt_of_cell? w _ this)]
  exact this
theorem PCells.below {w w' : World} {b o : Nat} {p : PT} {pb : Option Addr} {cb : Nat} {pk : Option Addr} {ck : Nat} (h : PCells w b o p pb cb pk ck) (hb : Below w.heap.size w w') : PCells w' b o p pb cb pk ck := by
  obtain ⟨h0, h1, h2, h3, h4, h5, h6⟩ := h
  have hl := World.block_lt_of_cell? w _ h0
  refine ⟨?_, ?_, ?_, ?_, ?_, ?_, ?_⟩
  · rw [hb.cell (p := ⟨b, o, none⟩) hl]; exact h0
  · rw [hb.cell (p := ⟨b, o + 1, none⟩) hl]; exact h1
  · rw [hb.cell (p := ⟨b, o + 2, none⟩) hl]; exact h2
  · rw [hb.cell (p := ⟨b, o + 3, none⟩) hl]; exact h3
  · rw [hb.cell (p := ⟨b, o + 4, none⟩) hl]; exact h4
  · rw [hb.cell (p := ⟨b, o + 5, none⟩) hl]; exact h5
  · rw [hb.cell (p := ⟨b, o + 6, none⟩) hl]; exact h6
theorem PHeldK.mono {K K' : Option Addr → List PT → Prop} {w w' : World} {p : PT} {pb : Option Addr} {cb : Nat} {pk : Option Addr} {ck : Nat} (h : PHeldK K w p pb cb pk ck) (hb : Below w.heap.size w w') (hK : ∀ a l, K a l → K' a l) : PHeldK K' w' p pb cb pk ck :=
  ⟨h.1, h.2.1, h.2.2.1.under hb, h.2.2.2.1, hK _ _ h.2.2.2.2⟩
theorem KAt.below {w w' : World} (hb : Below w.heap.size w w') : ∀ (f : Nat) (a : Option Addr) (l : List PT), KAt w f a l → KAt w' f a l
  | 0, _, _, h => h
  | f + 1, a, l, h => fun hne => by
    obtain ⟨b, o, e, hc⟩ := h hne
    refine ⟨b, o, e, fun i hi => ?_⟩
    obtain ⟨pb, cb, pk, ck, h1, h2⟩ := hc i hi
    exact ⟨pb, cb, pk, ck, h1.below hb, h2.mono hb (KAt.below hb f)⟩
theorem PHeld.below {w w' : World} {f : Nat} {p : PT} {pb : Option Addr} {cb : Nat} {pk : Option Addr} {ck : Nat} (h : PHeld w f p pb cb pk ck) (hb : Below w.heap.size w w') : PHeld w' f p pb cb pk ck := PHeldK.mono h hb (KAt.below hb f)
theorem PAt.below {w w' : World} {f b o : Nat} {p : PT} (h : PAt w f b o p) (hb : Below w.heap.size w w') : PAt w' f b o p := by
  obtain ⟨pb, cb, pk, ck, h1, h2⟩ := h
  exact ⟨pb, cb, pk, ck, h1.below hb, h2.below hb⟩
theorem PAt.lt {w : World} {f b o : Nat} {p : PT} (h : PAt w f b o p) : b < w.heap.size := by
  obtain ⟨pb, cb, pk, ck, h1, h2⟩ := h
  exact World.block_lt_of_cell? w _ h1.1
end Go.Proofs.YtlndhdimamnnlaaGreatDoor

/- bytes.TrimRight at a set of two or more ASCII bytes: the slice without such bytes at its end; nothing that was there is changed. -/
namespace Go.Proofs.YtlndhdimamnnlaaGreatDoor
open Go.RowKit

theorem bzero256 (w : World) : (zeroValue 139).run Tryz.prog w = .ok (.agg (Array.replicate 256 (.bool false))) w := by kernel_rfl
theorem bsize256 : (Tryz.prog.info? 139).map (·.size) = some 256 := by kernel_rfl

theorem wp_load_of {P : Program} {o : Oper} {a : Act} {w : World} {K : Act → World → Prop} {Q : Exit → Act → World → Prop} {t : TypeId} {x : Operand} {u v : Value} (hop : o.op = Op.load t x) (hx : a.eval x = u) (hl : (Instr.loadAt t u).run P w = .ok v w) (hK : K (a.put o.dst v) w) : Oper.wp P o a w K Q := by
  unfold Oper.wp
  simp [execOp, hop, hx, hl, Result.andThen]
  exact hK
theorem load256 (w : World) (SA : Array Value) (hsz : SA.size = 256) : (Instr.loadAt 139 (.pointer (some ⟨w.heap.size, 0, none⟩))).run Tryz.prog (w.alloc (.cells SA 139)) = .ok (.agg SA) (w.alloc (.cells SA 139)) := by
  have hld := run_loadVar_new (P := Tryz.prog) w 139 SA 256 4 Tryz.underlying139 (by rw [hsz]; exact bsize256)
  simp [Instr.loadAt, Instr.sureAddr, hld]

set_option maxHeartbeats 4000000 in
set_option maxRecDepth 1000000 in
theorem bmake_set (chars : ByteArray) (w : World) (hs : chars.size ≤ 1000) (hascii : ∀ (j : Nat) b, chars.data.toList[j]? = some b → b.toNat < 128) :
    Calls Tryz.prog 110 #[.string chars] w fun e w' => e = .returned (.tuple #[.agg (Lib.setCells chars.data.toList), .bool true]) ∧ w' = w.alloc (.cells (Lib.setCells chars.data.toList) 139) := by
  have HA : Hid (∀ (j : Nat) b, chars.data.toList[j]? = some b → b.toNat < 128) := hascii
  clear hascii
  go_enter Tryz.func110, Tryz.ntmps110
  go_wp2
  have e0 : Tryz.zeroCells139 = Lib.setCells [] := by kernel_rfl
  rw [e0]
  go_loopg [4] chars.size (fun g s4 wx => ∃ i : Nat, i + g = chars.size ∧ s4 = .int .i64 i ∧ wx = w.alloc (.cells (Lib.setCells (chars.data.toList.take i)) 139))
  case atStart => exact ⟨0, by omega, rfl, rfl⟩
  case round =>
    obtain ⟨i, hig, rfl, rfl⟩ := hrel
    clear e0
    cases gk with
    | zero =>
      obtain rfl : i = chars.size := by omega
      have hiz : ¬ ((chars.size : Int) < (chars.size : Int)) := by omega
      rw [show chars.data.toList.take chars.size = chars.data.toList from List.take_of_length_le (by rw [← Lib.size_eq]; exact Nat.le_refl _)]
      have hsz := Lib.setCells_size chars.data.toList
      have hld := run_loadVar_new (P := Tryz.prog) w 139 (Lib.setCells chars.data.toList) 256 4 Tryz.underlying139 (by rw [hsz]; exact bsize256)
      have hsc := run_storeCells_new (P := Tryz.prog) w 139 (Lib.setCells chars.data.toList) (Lib.setCells chars.data.toList) (by rw [hsz]; exact bsize256) rfl (Lib.setCells_one _)
      go_wp2_with fail
      refine wp_load_of rfl rfl (load256 w _ hsz) ?_
      go_wp2_with fail
      refine bodyPost_ret (v := .tuple #[.agg (Lib.setCells chars.data.toList), .bool true]) ?_ rfl ⟨rfl, rfl⟩
      rw [results_cell_tmp rfl]
      simp [asAddr, Result.andThen, hld]
    | succ g =>
      have hi : i < chars.size := by omega
      have hiz : (i : Int) < (chars.size : Int) := by omega
      obtain ⟨x, hx⟩ : ∃ x : UInt8, chars[i]'hi = x := ⟨_, rfl⟩
      have hxl : chars.data.toList[i]? = some x := by rw [← hx]; exact Lib.data_getElem? chars i hi
      have hx128 : ¬ ((128 : Int) ≤ (x.toNat : Int)) := by have := HA.out i x hxl; omega
      have hx256 : (x.toNat : Int) < 256 := by have := HA.out i x hxl; omega
      have hcell := Lib.setCells_at (chars.data.toList.take i) x
      have Hx : Hid (chars.data.toList[i]? = some x) := hxl
      clear hxl
      go_wp2_with fail
      go_roundg g
      case measure => omega
      case rel => exact ⟨i + 1, by omega, by go_num, by rw [List.take_add_one, Hx.out]; simp only [Option.toList]; rw [Lib.setCells_snoc]⟩

theorem bin_set (g : Nat) (c : UInt8) (cc : Int) (e : cc = (c.toNat : Int)) (v : Bool) (w : World) (hc : w.cell? ⟨g, c.toNat, none⟩ = some (.bool v)) :
    Calls Tryz.prog 159 #[.pointer (some ⟨g, 0, none⟩), .int .u8 cc] w fun e w' => e = .returned (.bool v) ∧ w' = w := by
  subst e
  have := c.toNat_lt
  go_enter Tryz.func159, Tryz.ntmps159
  go_wp2
  go_ret
  exact ⟨rfl, rfl⟩

theorem drop_take (L : List UInt8) (k : Nat) (h : k < L.length) : L.take (k + 1) = L.take k ++ [L[k]] := by
  rw [List.take_add_one, List.getElem?_eq_getElem h]; rfl

set_option maxHeartbeats 1000000 in
/-- bytes.trimRightASCII. -/
theorem bright_set (p : UInt8 → Bool) (g b o cap : Nat) (L : List UInt8) (w : World) (hs : L.length ≤ 1000000000) (hcap : L.length ≤ cap) (hg : ∀ c : UInt8, w.cell? ⟨g, c.toNat, none⟩ = some (.bool (p c))) (hr : ∀ i, i < L.length → w.cell? ⟨b, o + i, none⟩ = some (.int .u8 ((L.getD i 0).toNat : Int))) :
    Calls Tryz.prog 111 #[.slice (some ⟨b, o, none⟩) L.length cap, .pointer (some ⟨g, 0, none⟩)] w fun e w' => e = .returned (.slice (some ⟨b, o, none⟩) (dropEnd p L).length cap) ∧ w' = w := by
  have HG : Hid (∀ c : UInt8, w.cell? ⟨g, c.toNat, none⟩ = some (.bool (p c))) := hg
  have HR : Hid (∀ i, i < L.length → w.cell? ⟨b, o + i, none⟩ = some (.int .u8 ((L.getD i 0).toNat : Int))) := hr
  clear hg hr
  obtain ⟨N, hN⟩ : ∃ N, L.length = N := ⟨_, rfl⟩
  have HN : Hid (L.length = N) := hN
  rw [hN] at hs hcap ⊢
  clear hN
  obtain ⟨R, hR⟩ : ∃ R, (dropEnd p L).length = R := ⟨_, rfl⟩
  have HRR : Hid ((dropEnd p L).length = R) := hR
  rw [hR]
  clear hR
  go_enter Tryz.func111, Tryz.ntmps111
  go_wp2
  go_loopg [0] N (fun k v wr => v = .slice (some ⟨b, o, none⟩) k cap ∧ k ≤ N ∧ wr = w ∧ Hid (dropEnd p (L.take k) = dropEnd p L))
  case atStart => exact ⟨rfl, Nat.le_refl _, rfl, by unfold Hid; rw [List.take_of_length_le (by rw [HN.out]; exact Nat.le_refl _)]⟩
  case round =>
    obtain ⟨rfl, hk, rfl, HT⟩ := hrel
    cases gk with
    | zero =>
      have HE : Hid (R = 0) := by unfold Hid; rw [← HRR.out, ← HT.out]; rfl
      clear HT HRR
      go_wp2
      go_ret
      exact ⟨by rw [HE.out]; rfl, rfl⟩
    | succ k =>
      have hkl : k < L.length := by rw [HN.out]; omega
      have hcl : wr.cell? ⟨b, o + k, none⟩ = some (.int .u8 ((L[k]).toNat : Int)) := by
        have := HR.out k hkl
        rw [List.getD_eq_getElem?_getD, List.getElem?_eq_getElem hkl] at this
        exact this
      have htk := drop_take L k hkl
      have hcell := HG.out L[k]
      generalize L[k] = c at *
      have hkw : IntKind.i64.wrap (((k + 1 : Nat) : Int) - 1) = (k : Int) := by rw [IntKind.wrap_i64]; omega
      cases hb : p c
      · have HE : Hid (R = k + 1) := by
          unfold Hid
          rw [← HRR.out, ← HT.out, htk, dropEnd_no p _ _ hb, List.length_append, List.length_take, Nat.min_eq_left (by omega)]
          rfl
        rw [hb] at hcell
        clear hb htk HT HRR
        go_wp2_with (go_at_call 159; refine (bin_set g c _ rfl false _ hcell).mono ?_; rintro e w' ⟨rfl, hw'⟩; have hw'' := hw'.symm; subst hw'')
        go_ret
        exact ⟨by rw [HE.out]; rfl, rfl⟩
      · have HE : Hid (dropEnd p (L.take k) = dropEnd p L) := by
          unfold Hid
          rw [← HT.out, htk]
          exact (dropEnd_yes p _ _ hb).symm
        rw [hb] at hcell
        clear hb htk HT
        go_wp2_with (go_at_call 159; refine (bin_set g c _ rfl true _ hcell).mono ?_; rintro e w' ⟨rfl, hw'⟩; have hw'' := hw'.symm; subst hw'')
        go_roundg k
        case measure => omega
        case rel => exact ⟨rfl, by omega, rfl, HE⟩
end Go.Proofs.YtlndhdimamnnlaaGreatDoor

/- string(b) of bytes that lie there. No function of the program. -/
namespace Go.Proofs.YtlndhdimamnnlaaGreatDoor
open Go.RowKit

theorem conv_bytes (w : World) (p : Option Addr) (n c : Nat) (L : List UInt8) (en : n = L.length) (hr : BRow w p L) (hp : p = none → n = 0 ∧ c = 0) : (convert 22 9 (.slice p n c)).run Tryz.prog w = .ok (.string ⟨L.toArray⟩) w := by
  cases p with
  | none =>
    obtain ⟨h0, rfl⟩ := hp rfl
    subst h0
    obtain rfl : L = [] := List.length_eq_zero_iff.1 en.symm
    exact convert_nil w
  | some a =>
    subst en
    refine run_convert_bytes_back (P := Tryz.prog) w 22 9 5 a c L Tryz.underlying22 Tryz.underlying5 Tryz.underlying9 (fun j hj => ?_)
    obtain ⟨b, o, e, hc⟩ := hr (fun e => by rw [e] at hj; exact absurd hj (by simp))
    obtain rfl := Option.some.inj e
    rw [Addr.add_lit, hc j hj]
    simp [List.getD_eq_getElem?_getD, List.getElem?_eq_getElem hj]

end Go.Proofs.YtlndhdimamnnlaaGreatDoor

/- strings.IndexByte as a question: is the byte there? No function of the program. -/
namespace Go.Proofs.YtlndhdimamnnlaaGreatDoor
open Go.RowKit

theorem dropB (s : ByteArray) (k : Nat) (h : k < s.size) : s.data.toList.drop k = s[k] :: s.data.toList.drop (k + 1) := by
  rw [List.drop_eq_getElem_cons (by simpa using h)]; rfl

theorem ix_any (s : ByteArray) (l : List UInt8) (hs : s.data.toList = l) (c : UInt8) (cc : Int) (e : cc = (c.toNat : Int)) (w : World) :
    Calls Tryz.prog 89 #[.string s, .int .u8 cc] w fun e w' => ∃ i : Int, e = .returned (.int .i64 i) ∧ decide (0 ≤ i) = l.contains c ∧ w' = w := by
  subst e hs
  refine (Tryz.strings_IndexByte s (c.toNat : Int) w).mono ?_
  rintro e w' ⟨rfl, rfl⟩
  refine ⟨_, rfl, ?_, rfl⟩
  rw [indexByte_mem]
  simp

end Go.Proofs.YtlndhdimamnnlaaGreatDoor
