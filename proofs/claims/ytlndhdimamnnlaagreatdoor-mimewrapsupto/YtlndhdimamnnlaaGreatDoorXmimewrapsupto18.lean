/- Plain facts: what is written as printable signs is read; its lines; two of them behind one another. No program. -/
import Derived.Test.YtlndhdimamnnlaaGreatDoorXmimewrapsupto17
import Derived.Test.YtlndhdimamnnlaaGreatDoorXmimewrapsupto3
import Derived.Lib.Replace
import Derived.Test.YtlndhdimamnnlaaGreatDoorXmimewrapsupto4
import Derived.Test.YtlndhdimamnnlaaGreatDoorXmimewrapsupto5
import Derived.Deep.WholeRow
namespace Go.Proofs.YtlndhdimamnnlaaGreatDoor

theorem q1_signs : ∀ n : Fin 256, ∀ x ∈ q1 (UInt8.ofNat n.val), 33 ≤ x.toNat ∧ x.toNat ≤ 126 := by decide +kernel
theorem q1_printable (c : UInt8) : ∀ x ∈ q1 c, 33 ≤ x.toNat ∧ x.toNat ≤ 126 := by
  have hc : UInt8.ofNat c.toNat = c := by simp
  have := q1_signs ⟨c.toNat, c.toNat_lt⟩
  simp only [hc] at this
  exact this
theorem q1_hex : ∀ n : Fin 256, plainQ (UInt8.ofNat n.val) = false → isHex (upHex (n.val / 16)) = true ∧ isHex (upHex (n.val % 16)) = true ∧ UInt8.ofNat (hexv (upHex (n.val / 16)) * 16 + hexv (upHex (n.val % 16))) = UInt8.ofNat n.val := by decide +kernel
theorem q1_end : ∀ n : Fin 256, (q1 (UInt8.ofNat n.val)).getLast? ≠ some 61 := by decide +kernel

theorem decQ_q1 (c : UInt8) (r : List UInt8) : decQ (q1 c ++ r) = (decQ r).map (c :: ·) := by
  have hc : UInt8.ofNat c.toNat = c := by simp
  cases h : plainQ c with
  | true =>
    have hne : c ≠ 61 := by
      rintro rfl
      revert h
      decide
    rw [q1, if_pos h]
    exact decQ_plain c r hne
  | false =>
    have := q1_hex ⟨c.toNat, c.toNat_lt⟩
    simp only [hc] at this
    obtain ⟨h1, h2, h3⟩ := this h
    rw [q1, if_neg (by simp [h])]
    show decQ (61 :: upHex (c.toNat / 16) :: upHex (c.toNat % 16) :: r) = _
    rw [decQ_hex _ _ _ (by simp [h1, h2]), h3]

def qs (g : List UInt8) : List UInt8 := g.flatMap q1
theorem qs_cons (c : UInt8) (g : List UInt8) : qs (c :: g) = q1 c ++ qs g := by simp [qs]
theorem qs_append (a b : List UInt8) : qs (a ++ b) = qs a ++ qs b := by simp [qs]
theorem decQ_qs (g : List UInt8) : decQ (qs g) = some g := by
  induction g with
  | nil => rfl
  | cons c g ih => rw [qs_cons, decQ_q1, ih]; rfl
theorem qs_printable (g : List UInt8) : ∀ x ∈ qs g, 33 ≤ x.toNat ∧ x.toNat ≤ 126 := by
  intro x hx
  unfold qs at hx
  rw [List.mem_flatMap] at hx
  obtain ⟨c, _, hc⟩ := hx
  exact q1_printable c x hc
theorem qs_length (g : List UInt8) : g.length ≤ (qs g).length ∧ (qs g).length ≤ 3 * g.length := by
  induction g with
  | nil => simp [qs]
  | cons c g ih => have := q1_length c; rw [qs_cons]; simp; omega
theorem qs_end (g : List UInt8) : endsQ (qs g) 61 = false := by
  rcases List.eq_nil_or_concat g with rfl | ⟨x, c, rfl⟩
  · rfl
  · rw [List.concat_eq_append, qs_append]
    have e : qs [c] = q1 c := by simp [qs]
    rw [e]
    unfold endsQ
    have hc : UInt8.ofNat c.toNat = c := by simp
    have h := q1_end ⟨c.toNat, c.toNat_lt⟩
    simp only [hc] at h
    have hl := q1_length c
    rw [List.getLast?_append]
    cases hq : (q1 c).getLast? with
    | none => rw [List.getLast?_eq_none_iff] at hq; rw [hq] at hl; simp at hl
    | some y => rw [hq] at h; simpa using h
theorem strip_printable (x : List UInt8) (h : ∀ c ∈ x, 33 ≤ c.toNat ∧ c.toNat ≤ 126) : stripR x = x := by
  rcases List.eq_nil_or_concat x with rfl | ⟨y, c, rfl⟩
  · rfl
  · rw [List.concat_eq_append] at *
    apply stripR_other
    have := h c (by simp)
    unfold blankQ
    have e1 : (c == 32) = false := by rw [beq_eq_false_iff_ne]; rintro rfl; revert this; decide
    have e2 : (c == 9) = false := by rw [beq_eq_false_iff_ne]; rintro rfl; revert this; decide
    have e3 : (c == 13) = false := by rw [beq_eq_false_iff_ne]; rintro rfl; revert this; decide
    simp [e1, e2, e3]

/-- A line that goes on. -/
theorem lineQ_on (g : List UInt8) : lineQ (qs g ++ [61, 13, 10]) = (qs g, false) := by
  have e1 : endsQ (qs g ++ [61, 13, 10]) 10 = true := by
    rw [show qs g ++ [61, 13, 10] = (qs g ++ [61, 13]) ++ [10] from by simp, endsQ_snoc]; rfl
  have e2 : (qs g ++ [61, 13, 10]).dropLast = qs g ++ [61, 13] := by
    rw [show qs g ++ [61, 13, 10] = (qs g ++ [61, 13]) ++ [10] from by simp, List.dropLast_concat]
  have e3 : stripR (qs g ++ [61, 13]) = qs g ++ [61] := by
    rw [show qs g ++ [61, 13] = (qs g ++ [61]) ++ [13] from by simp, stripR_blank _ _ (by decide), stripR_other _ _ (by decide)]
  unfold lineQ
  rw [if_pos e1, e2, e3, endsQ_snoc, if_pos (by decide), List.dropLast_concat]
/-- The last line. -/
theorem lineQ_last (g : List UInt8) : lineQ (qs g) = (qs g, false) := by
  have hp := qs_printable g
  have e1 : endsQ (qs g) 10 = false := by
    unfold endsQ
    rw [beq_eq_false_iff_ne]
    intro e
    have := hp 10 (List.mem_of_getLast? e)
    revert this; decide
  unfold lineQ
  rw [e1]
  simp only [Bool.false_eq_true, if_false]
  rw [strip_printable _ hp, qs_end]
  rfl

/-- Groups of bytes, a line each. -/
def rendG : List UInt8 → List (List UInt8) → List UInt8
  | g, [] => qs g
  | g, h :: t => qs g ++ ([61, 13, 10] ++ rendG h t)
def pieces : List UInt8 → List (List UInt8) → List (List UInt8)
  | g, [] => [qs g]
  | g, h :: t => (qs g ++ [61, 13, 10]) :: pieces h t

theorem index_none1 (d : UInt8) (a : List UInt8) (h : ∀ c ∈ a, c ≠ d) : Lib.index a [d] = -1 := by
  induction a with
  | nil => rfl
  | cons c a ih =>
    have hc : (d == c) = false := by simp; exact fun e => h c (by simp) e.symm
    have := ih (fun e he => h e (by simp [he]))
    simp [Lib.index, List.isPrefixOf, hc] at this ⊢
    intro hh
    exact absurd this hh
theorem index_at1 (d : UInt8) (a r : List UInt8) (h : ∀ c ∈ a, c ≠ d) : Lib.index (a ++ ([d] ++ r)) [d] = (a.length : Int) := by
  induction a with
  | nil => simp [Lib.index, List.isPrefixOf]
  | cons c a ih =>
    have hc : (d == c) = false := by simp; exact fun e => h c (by simp) e.symm
    have hi := ih (fun e he => h e (by simp [he]))
    rw [List.cons_append, Lib.index]
    have hp : [d].isPrefixOf (c :: (a ++ ([d] ++ r))) = false := by simp [List.isPrefixOf, hc]
    rw [hp, hi]
    simp only [Bool.false_eq_true, if_false]
    rw [if_neg (by simp)]
    simp

theorem drop_one (d : UInt8) (a r : List UInt8) : (a ++ ([d] ++ r)).drop (a.length + 1) = r := by
  rw [show a.length + 1 = (a ++ [d]).length from by simp, ← List.append_assoc, List.drop_left]
theorem take_one (d : UInt8) (a r : List UInt8) : (a ++ ([d] ++ r)).take (a.length + 1) = a ++ [d] := by
  rw [show a.length + 1 = (a ++ [d]).length from by simp, ← List.append_assoc, List.take_left]
theorem not10 (g : List UInt8) : ∀ c ∈ qs g, c ≠ 10 := fun c hc e => by
  have := qs_printable g c hc
  rw [e] at this
  revert this; decide
theorem not10' (g : List UInt8) : ∀ c ∈ qs g ++ [61, 13], c ≠ 10 := by
  intro c hc
  rw [List.mem_append] at hc
  rcases hc with hc | hc
  · exact not10 g c hc
  · simp at hc; rcases hc with rfl | rfl <;> decide

theorem split_rend : ∀ (t : List (List UInt8)) (g : List UInt8), Lib.splitK [10] 1 (Lib.count (rendG g t) [10]) (rendG g t) = pieces g t := by
  intro t
  induction t with
  | nil =>
    intro g
    rw [rendG, Lib.count_miss (index_none1 10 _ (not10 g))]
    rfl
  | cons h t ih =>
    intro g
    have e : rendG g (h :: t) = (qs g ++ [61, 13]) ++ ([10] ++ rendG h t) := by rw [rendG]; simp
    have hi := index_at1 10 (qs g ++ [61, 13]) (rendG h t) (not10' g)
    have hd := drop_one 10 (qs g ++ [61, 13]) (rendG h t)
    have ht := take_one 10 (qs g ++ [61, 13]) (rendG h t)
    have ep : pieces g (h :: t) = ((qs g ++ [61, 13]) ++ [10]) :: pieces h t := by rw [pieces]; simp
    rw [e, ep]
    generalize qs g ++ [61, 13] = a at *
    rw [Lib.count_hit (by simp) hi]
    rw [show a.length + [(10 : UInt8)].length = a.length + 1 from rfl, hd, Nat.add_comm 1, Lib.splitK, hi, if_neg (by simp), Int.toNat_natCast, ht]
    rw [show a.length + [(10 : UInt8)].length = a.length + 1 from rfl, hd, ih h]

theorem lines_rend : ∀ (t : List (List UInt8)) (g o : List UInt8), (o ++ (g :: t).flatten).length ≤ 4000 → linesQ (pieces g t) o = (o ++ (g :: t).flatten, 0) := by
  intro t
  induction t with
  | nil =>
    intro g o h
    simp only [List.flatten_cons, List.flatten_nil, List.append_nil] at h ⊢
    rw [pieces, linesQ, lineQ_last]
    simp only [decQ_qs, Bool.false_eq_true, if_false, List.append_nil]
    rw [if_neg (by omega)]
    rfl
  | cons x t ih =>
    intro g o h
    simp only [List.flatten_cons] at h ⊢
    rw [pieces, linesQ, lineQ_on]
    simp only [decQ_qs, Bool.false_eq_true, if_false, List.append_nil]
    have hl : (o ++ g).length ≤ 4000 := by simp only [List.length_append] at h ⊢; omega
    rw [if_neg (by omega), ih x (o ++ g) (by simpa using h)]
    simp

/-- WHAT IS WRITTEN SO IS READ. -/
theorem readQ_rend (g : List UInt8) (t : List (List UInt8)) (h : ((g :: t).flatten).length ≤ 4000) (hl : (rendG g t).length ≤ 16000) : readQ (rendG g t) = ((g :: t).flatten, 0) := by
  unfold readQ
  rw [if_neg (by omega), split_rend, lines_rend t g [] (by simpa using h)]
  simp

/-- Two of them behind one another. -/
theorem rend_append : ∀ (t : List (List UInt8)) (g : List UInt8) (h : List UInt8) (u : List (List UInt8)), ∃ k v, rendG g t ++ rendG h u = rendG k v ∧ (k :: v).flatten = (g :: t).flatten ++ (h :: u).flatten := by
  intro t
  induction t with
  | nil =>
    intro g h u
    cases u with
    | nil => exact ⟨g ++ h, [], by rw [rendG, rendG, rendG, qs_append], by simp⟩
    | cons x u => exact ⟨g ++ h, x :: u, by rw [rendG, rendG, rendG, qs_append]; simp, by simp⟩
  | cons x t ih =>
    intro g h u
    obtain ⟨k, v, e1, e2⟩ := ih x h u
    refine ⟨g, k :: v, ?_, ?_⟩
    · rw [rendG, rendG, ← e1]; simp
    · rw [List.flatten_cons, e2]; simp
end Go.Proofs.YtlndhdimamnnlaaGreatDoor

/- strings.Trim at two bytes and the 22 hexadecimal digits leaves nothing just where both are such digits; nothing that was there is changed. No condition. -/
namespace Go.Proofs.YtlndhdimamnnlaaGreatDoor
open Go.RowKit

def hexB : ByteArray := ⟨#[48, 49, 50, 51, 52, 53, 54, 55, 56, 57, 65, 66, 67, 68, 69, 70, 97, 98, 99, 100, 101, 102]⟩

theorem zero_set (w : World) : (zeroValue 121).run Tryz.prog w = .ok (.agg (Array.replicate 256 (.bool false))) w := by kernel_rfl

theorem has_any (g : Nat) (c : UInt8) (cc : Int) (e : cc = (c.toNat : Int)) (v : Bool) (w : World) (hc : w.cell? ⟨g, c.toNat, none⟩ = some (.bool v)) :
    Calls Tryz.prog 141 #[.pointer (some ⟨g, 0, none⟩), .int .u8 cc] w fun e w' => e = .returned (.bool v) ∧ w' = w := by
  subst e
  have := c.toNat_lt
  go_enter Tryz.func141, Tryz.ntmps141
  go_wp2
  go_ret
  exact ⟨rfl, rfl⟩

theorem cut_two (a b : UInt8) : (ByteArray.mk #[a, b]).extract 0 1 = ⟨#[a]⟩ := rfl
theorem cut_one (a : UInt8) : (ByteArray.mk #[a]).extract 0 0 = ⟨#[]⟩ := rfl
theorem tail_two (a b : UInt8) : (ByteArray.mk #[a, b]).extract 1 2 = ⟨#[b]⟩ := rfl

set_option maxHeartbeats 1000000 in
theorem right2 (g : Nat) (a b : UInt8) (va vb : Bool) (w : World) (ha : w.cell? ⟨g, a.toNat, none⟩ = some (.bool va)) (hb : w.cell? ⟨g, b.toNat, none⟩ = some (.bool vb)) :
    Calls Tryz.prog 94 #[.string ⟨#[a, b]⟩, .pointer (some ⟨g, 0, none⟩)] w fun e w' => e = .returned (.string (if vb = true then (if va = true then ⟨#[]⟩ else ⟨#[a]⟩) else ⟨#[a, b]⟩)) ∧ w' = w := by
  have x1 := cut_two a b
  have x2 := cut_one a
  cases vb
  · go_enter Tryz.func94, Tryz.ntmps94
    go_wp2_with fail
    refine wp_loop_rounds 1 ?_
    rw [rounds_succ]
    go_wp2_with fail
    refine (has_any g b _ rfl false w hb).mono ?_
    rintro e w' ⟨rfl, hw'⟩
    have hw'' := hw'.symm
    subst hw''
    go_wp2
    go_ret
    exact ⟨rfl, rfl⟩
  · cases va
    · go_enter Tryz.func94, Tryz.ntmps94
      go_wp2_with fail
      refine wp_loop_rounds 2 ?_
      rw [rounds_succ]
      go_wp2_with fail
      refine (has_any g b _ rfl true w hb).mono ?_
      rintro e w' ⟨rfl, hw'⟩
      have hw'' := hw'.symm
      subst hw''
      go_wp2
      rw [rounds_succ]
      go_wp2_with fail
      refine (has_any g a _ rfl false w ha).mono ?_
      rintro e w' ⟨rfl, hw'⟩
      have hw'' := hw'.symm
      subst hw''
      go_wp2
      go_ret
      exact ⟨rfl, rfl⟩
    · go_enter Tryz.func94, Tryz.ntmps94
      go_wp2_with fail
      refine wp_loop_rounds 3 ?_
      rw [rounds_succ]
      go_wp2_with fail
      refine (has_any g b _ rfl true w hb).mono ?_
      rintro e w' ⟨rfl, hw'⟩
      have hw'' := hw'.symm
      subst hw''
      go_wp2
      rw [rounds_succ]
      go_wp2_with fail
      refine (has_any g a _ rfl true w ha).mono ?_
      rintro e w' ⟨rfl, hw'⟩
      have hw'' := hw'.symm
      subst hw''
      go_wp2
      rw [rounds_succ]
      go_wp2
      go_ret
      exact ⟨rfl, rfl⟩

theorem left0 (g : Nat) (w : World) :
    Calls Tryz.prog 128 #[.string ⟨#[]⟩, .pointer (some ⟨g, 0, none⟩)] w fun e w' => e = .returned (.string ⟨#[]⟩) ∧ w' = w := by
  go_enter Tryz.func128, Tryz.ntmps128
  go_wp2_with fail
  refine wp_loop_rounds 1 ?_
  rw [rounds_succ]
  go_wp2
  go_ret
  exact ⟨rfl, rfl⟩

set_option maxHeartbeats 1000000 in
theorem left1 (g : Nat) (a : UInt8) (w : World) (ha : w.cell? ⟨g, a.toNat, none⟩ = some (.bool false)) :
    Calls Tryz.prog 128 #[.string ⟨#[a]⟩, .pointer (some ⟨g, 0, none⟩)] w fun e w' => e = .returned (.string ⟨#[a]⟩) ∧ w' = w := by
  go_enter Tryz.func128, Tryz.ntmps128
  go_wp2_with fail
  refine wp_loop_rounds 1 ?_
  rw [rounds_succ]
  go_wp2_with fail
  refine (has_any g a _ rfl false w ha).mono ?_
  rintro e w' ⟨rfl, hw'⟩
  have hw'' := hw'.symm
  subst hw''
  go_wp2
  go_ret
  exact ⟨rfl, rfl⟩

set_option maxHeartbeats 1000000 in
theorem left2 (g : Nat) (a b : UInt8) (va : Bool) (w : World) (ha : w.cell? ⟨g, a.toNat, none⟩ = some (.bool va)) (hb : w.cell? ⟨g, b.toNat, none⟩ = some (.bool false)) :
    Calls Tryz.prog 128 #[.string ⟨#[a, b]⟩, .pointer (some ⟨g, 0, none⟩)] w fun e w' => e = .returned (.string (if va = true then ⟨#[b]⟩ else ⟨#[a, b]⟩)) ∧ w' = w := by
  have x1 := tail_two a b
  cases va
  · go_enter Tryz.func128, Tryz.ntmps128
    go_wp2_with fail
    refine wp_loop_rounds 1 ?_
    rw [rounds_succ]
    go_wp2_with fail
    refine (has_any g a _ rfl false w ha).mono ?_
    rintro e w' ⟨rfl, hw'⟩
    have hw'' := hw'.symm
    subst hw''
    go_wp2
    go_ret
    exact ⟨rfl, rfl⟩
  · go_enter Tryz.func128, Tryz.ntmps128
    go_wp2_with fail
    refine wp_loop_rounds 2 ?_
    rw [rounds_succ]
    go_wp2_with fail
    refine (has_any g a _ rfl true w ha).mono ?_
    rintro e w' ⟨rfl, hw'⟩
    have hw'' := hw'.symm
    subst hw''
    go_wp2
    rw [rounds_succ]
    go_wp2_with fail
    refine (has_any g b _ rfl false w hb).mono ?_
    rintro e w' ⟨rfl, hw'⟩
    have hw'' := hw'.symm
    subst hw''
    go_wp2
    go_ret
    exact ⟨rfl, rfl⟩

set_option maxHeartbeats 2000000 in
set_option maxRecDepth 100000 in
theorem trim_hex (a b : UInt8) (w : World) :
    Calls Tryz.prog 79 #[.string ⟨#[a, b]⟩, .string ⟨#[48, 49, 50, 51, 52, 53, 54, 55, 56, 57, 65, 66, 67, 68, 69, 70, 97, 98, 99, 100, 101, 102]⟩] w fun e w' =>
      ∃ r : ByteArray, r.toList.isEmpty = (isHex a && isHex b) ∧ e = .returned (.string r) ∧ Below w.heap.size w w' := by
  go_enter Tryz.func79, Tryz.ntmps79
  go_wp2_with fail
  refine (Tryz.strings_makeASCIISet zero_set ⟨#[48, 49, 50, 51, 52, 53, 54, 55, 56, 57, 65, 66, 67, 68, 69, 70, 97, 98, 99, 100, 101, 102]⟩ w (by decide) (fun j c hc => (List.all_eq_true.1 (show hexl.all (fun c => decide (c.toNat < 128)) = true by decide) c (List.mem_of_getElem? hc) |> of_decide_eq_true))).mono ?_
  rintro e w1 ⟨rfl, rfl⟩
  have hA1 : (Lib.setCells (ByteArray.mk #[48, 49, 50, 51, 52, 53, 54, 55, 56, 57, 65, 66, 67, 68, 69, 70, 97, 98, 99, 100, 101, 102]).data.toList).size = 256 := Lib.setCells_size _
  have hA2 : ∀ c : UInt8, (Lib.setCells (ByteArray.mk #[48, 49, 50, 51, 52, 53, 54, 55, 56, 57, 65, 66, 67, 68, 69, 70, 97, 98, 99, 100, 101, 102]).data.toList)[c.toNat]? = some (.bool (isHex c)) := fun c => Lib.setCells_at _ c
  have HA3 : Hid ((Lib.setCells (ByteArray.mk #[48, 49, 50, 51, 52, 53, 54, 55, 56, 57, 65, 66, 67, 68, 69, 70, 97, 98, 99, 100, 101, 102]).data.toList).all (·.oneCell') = true) := Lib.setCells_one _
  generalize Lib.setCells (ByteArray.mk #[48, 49, 50, 51, 52, 53, 54, 55, 56, 57, 65, 66, 67, 68, 69, 70, 97, 98, 99, 100, 101, 102]).data.toList = SA at *
  have hA3 : SA.all (·.oneCell') = true := HA3.out
  have hsc : (storeCells ⟨w.heap.size + 1, 0, none⟩ SA.toList 0).run Tryz.prog ((w.alloc (.cells SA 121)).alloc (.cells Tryz.zeroCells121 121)) = .ok () ((w.alloc (.cells SA 121)).alloc (.cells SA 121)) := by
    have := run_storeCells_new (P := Tryz.prog) (w.alloc (.cells SA 121)) 121 Tryz.zeroCells121 SA (by rw [hA1]; kernel_rfl) (by rw [hA1]; kernel_rfl) hA3
    simpa using this
  have hcell : ∀ c : UInt8, ((w.alloc (.cells SA 121)).alloc (.cells SA 121)).cell? ⟨w.heap.size + 1, c.toNat, none⟩ = some (.bool (isHex c)) := fun c => by
    rw [World.cell?_alloc_at _ _ _ _ (by simp)]; exact hA2 c
  have hb2 : Below w.heap.size w ((w.alloc (.cells SA 121)).alloc (.cells SA 121)) := ((Below.refl _ _).alloc (Nat.le_refl _) _).alloc (by simp) _
  clear hA2 hA3 HA3
  go_wp2_with fail
  clear hsc
  generalize ((w.alloc (.cells SA 121)).alloc (.cells SA 121)) = w2 at *
  have ha := hcell a
  have hb := hcell b
  clear hcell
  obtain ⟨va, hva⟩ : ∃ v, isHex a = v := ⟨_, rfl⟩
  obtain ⟨vb, hvb⟩ : ∃ v, isHex b = v := ⟨_, rfl⟩
  rw [hva] at ha
  rw [hvb] at hb
  have HV : Hid (isHex a = va ∧ isHex b = vb) := ⟨hva, hvb⟩
  clear hva hvb
  refine (right2 (w.heap.size + 1) a b va vb w2 ha hb).mono ?_
  rintro e w3 ⟨rfl, hw3⟩
  have hw3' := hw3.symm
  subst hw3'
  cases vb
  · rw [if_neg (by decide)]
    cases va
    · go_wp2_with fail
      refine (left2 (w.heap.size + 1) a b false w2 ha hb).mono ?_
      rintro e w3 ⟨rfl, hw3⟩
      have hw3' := hw3.symm
      subst hw3'
      rw [if_neg (by decide)]
      go_wp2
      go_ret
      exact ⟨_, by rw [HV.out.1, HV.out.2, ByteArray.toList_eq]; rfl, rfl, hb2⟩
    · go_wp2_with fail
      refine (left2 (w.heap.size + 1) a b true w2 ha hb).mono ?_
      rintro e w3 ⟨rfl, hw3⟩
      have hw3' := hw3.symm
      subst hw3'
      rw [if_pos rfl]
      go_wp2
      go_ret
      exact ⟨_, by rw [HV.out.1, HV.out.2, ByteArray.toList_eq]; rfl, rfl, hb2⟩
  · rw [if_pos rfl]
    cases va
    · rw [if_neg (by decide)]
      go_wp2_with fail
      refine (left1 (w.heap.size + 1) a w2 ha).mono ?_
      rintro e w3 ⟨rfl, hw3⟩
      have hw3' := hw3.symm
      subst hw3'
      go_wp2
      go_ret
      exact ⟨_, by rw [HV.out.1, HV.out.2, ByteArray.toList_eq]; rfl, rfl, hb2⟩
    · rw [if_pos rfl]
      go_wp2_with fail
      refine (left0 (w.heap.size + 1) w2).mono ?_
      rintro e w3 ⟨rfl, hw3⟩
      have hw3' := hw3.symm
      subst hw3'
      go_wp2
      go_ret
      exact ⟨_, by rw [HV.out.1, HV.out.2, ByteArray.toList_eq]; rfl, rfl, hb2⟩
end Go.Proofs.YtlndhdimamnnlaaGreatDoor
