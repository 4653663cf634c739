/- slices.Clone of texts; slices.EqualFunc of pieces and texts by the law MimeWraps' own closure, where they are the same. Nothing that was there is changed. -/
import Derived.Test.YtlndhdimamnnlaaGreatDoorXmimewrapsupto39
import Derived.Test.YtlndhdimamnnlaaGreatDoorXmimewrapsupto28
import Derived.Lib.IndexMore
import Derived.Lib.Join
import Derived.Test.YtlndhdimamnnlaaGreatDoorXmimewrapsupto4
namespace Go.Proofs.YtlndhdimamnnlaaGreatDoor
open Go.RowKit

theorem stv_length (l : List ByteArray) : (stv l).length = l.length := by simp [stv]
theorem stv_one (l : List ByteArray) : ∀ u ∈ stv l, u.oneCell' = true := by
  intro u hu
  simp only [stv, List.mem_map] at hu
  obtain ⟨s, _, rfl⟩ := hu
  rfl
theorem srow_cell {w : World} {p : Option Addr} {l : List ByteArray} (hr : SRow w p l) (j : Nat) (u : Value) (hj : (stv l)[j]? = some u) : ∃ b o, p = some ⟨b, o, none⟩ ∧ w.cell? ⟨b, o + j, none⟩ = some u := by
  simp only [stv, List.getElem?_map, Option.map_eq_some_iff] at hj
  obtain ⟨s, hs, rfl⟩ := hj
  obtain ⟨hjl, hs2⟩ := List.getElem?_eq_some_iff.1 hs
  obtain ⟨b, o, rfl, hc⟩ := hr (fun e => by rw [e] at hjl; exact absurd hjl (by simp))
  refine ⟨b, o, rfl, (hc j hjl).trans ?_⟩
  rw [List.getD_eq_getElem?_getD, hs]
  rfl
/-- 'append' of texts that lie somewhere, to a row that the call owns. -/
theorem wpList_append_srow {w : World} {ops : Array Oper} {rest : List Oper} {o : Oper} {a : Act} {Q : Exit → Act → World → Prop} (hgd : o.guard = none) (s x : Operand)
    (ho : o.op = .call { callee := .builtin .append, args := #[s, x], argTypes := #[41, 41] })
    (base : Nat) (v : Value) (n : Nat) (xs : List Value) (hs : a.eval s = v) (hown : w.ownsRow base 9 1 v n xs)
    (p : Option Addr) (l : List ByteArray) (m c : Nat) (em : m = l.length) (hx : a.eval x = .slice p m c) (hr : SRow w p l) (hp : p = none → m = 0 ∧ c = 0)
    (hb : (n + m) * 16 ≤ 140737488355328) (hbase : base ≤ w.heap.size)
    (h : ∀ v' w', w'.ownsRow base 9 1 v' (n + m) (xs ++ stv l) → w.grownBy w' v.ownBlock → wpList Tryz.prog ops Q rest (a.put o.dst v') w') : wpList Tryz.prog ops Q (o :: rest) a w := by
  obtain ⟨i0, hi, hz0, hz1, hz2⟩ := info_parts info_strM
  subst em
  cases p with
  | none =>
    obtain ⟨h0, rfl⟩ := hp rfl
    have hl : l = [] := List.length_eq_zero_iff.1 h0
    subst hl
    refine wpList_append_own_none hgd s x 41 ho base 9 i0 1 Tryz.underlying41 hi v n xs hs hown hx ?_
    refine h v w (by simpa [stv] using hown) (World.grownBy.refl _ _)
  | some ad =>
    refine wpList_append_own _ hgd s x 41 ho base 9 i0 (.string ⟨#[]⟩) 1 16 Tryz.underlying41 hi hz0 hz1 hz2 rfl (by decide) v n xs hs hown ad l.length c (stv l) hx (by rw [stv_length]; omega) ?_ (stv_one l) (by unfold maxLen; omega) hb hbase (fun v' w' h1 h2 _ => h v' w' h1 h2)
    intro j u hj
    obtain ⟨b, o', e, hc⟩ := srow_cell hr j u hj
    obtain rfl := Option.some.inj e
    rw [Addr.add_lit]
    exact hc
/-- A new block of no texts is owned. -/
theorem sown_new (w : World) : (w.alloc (.cells #[] 9)).ownsRow w.heap.size 9 1 (.slice (some ⟨w.heap.size, 0, none⟩) 0 0) 0 (stv []) := by
  refine ⟨rfl, .inr ⟨w.heap.size, 0, #[], rfl, Nat.le_refl _, by show (w.heap.push _)[w.heap.size]? = _; simp, Nat.le_refl _, by decide, rfl, rfl⟩⟩
theorem sclone_nil (w : World) : Calls Tryz.prog 20 #[.slice none 0 0] w fun e w' => e = .returned (.slice none 0 0) ∧ w' = w := by
  have hnil := Lib.run_eql_slice_nil (P := Tryz.prog) w 41 9 none 0 0 0 0 Tryz.underlying41
  go_enter Tryz.func20, Tryz.ntmps20
  go_wp2
  go_ret
  exact ⟨rfl, rfl⟩
set_option maxHeartbeats 1000000 in
/-- slices.Clone of texts. -/
theorem sclone_any (p : Option Addr) (n c : Nat) (l : List ByteArray) (en : n = l.length) (w : World) (hn : n ≤ 2000000) (hp : p = none → n = 0 ∧ c = 0) (hr : SRow w p l) :
    Calls Tryz.prog 20 #[.slice p n c] w fun e w' => Below w.heap.size w w' ∧ ∃ v, e = .returned v ∧ w'.ownsRow w.heap.size 9 1 v n (stv l) := by
  cases p with
  | none =>
    obtain ⟨rfl, rfl⟩ := hp rfl
    obtain rfl : l = [] := List.length_eq_zero_iff.1 en.symm
    refine (sclone_nil w).mono ?_
    rintro e w' ⟨rfl, rfl⟩
    exact ⟨Below.refl _ _, _, rfl, World.ownsRow_nil _ _ _ _⟩
  | some a =>
    have hnil := Lib.run_eql_slice_nil (P := Tryz.prog) w 41 9 (some a) n c 0 0 Tryz.underlying41
    have ho := sown_new w
    have HR : Hid (SRow w (some a) l) := hr
    have EN : Hid (n = l.length) := en
    clear hr en hp
    go_enter Tryz.func20, Tryz.ntmps20
    go_wp2_with (at_builtin; refine wpList_append_srow rfl (.tmp 5) (.tmp 6) rfl w.heap.size _ _ _ rfl ho (some a) l n c EN.out rfl (HR.out.below ((Below.refl _ _).alloc (Nat.le_refl _) _)) (fun h => by cases h) ?d1 ?d2 ?_)
    case d1 => omega
    case d2 => simp
    intro v1 w1 own1 grow1
    have hb1 : Below w.heap.size w w1 := ((Below.refl _ _).alloc (Nat.le_refl _) _).grown grow1 (by simp) (fun j hj => (ho.lt j hj).1)
    have R : w1.ownsRow w.heap.size 9 1 v1 n (stv l) := by simpa [stv] using own1
    clear own1 grow1 ho
    go_wp2
    go_ret
    exact ⟨hb1, v1, rfl, R⟩

/-- The closure: are these bytes that text? -/
theorem wclos_any (p : Option Addr) (n c : Nat) (L : List UInt8) (en : n = L.length) (w : World) (hr : BRow w p L) (hp : p = none → n = 0 ∧ c = 0) :
    Calls Tryz.prog 22 #[.slice p n c, .string ⟨L.toArray⟩] w fun e w' => e = .returned (.bool true) ∧ w' = w := by
  have hcv := conv_bytes w p n c L en hr hp
  clear hr hp en
  go_enter Tryz.func22, Tryz.ntmps22
  go_wp2
  go_ret
  exact ⟨by simp, rfl⟩
/-- slices.EqualFunc of pieces that are these texts. -/
theorem weq_none (p q : Option Addr) (c d : Nat) (w : World) : Calls Tryz.prog 21 #[.slice p 0 c, .slice q 0 d, .func (Fn.func 22) #[] #[]] w fun e w' => e = .returned (.bool true) ∧ w' = w := by
  go_enter Tryz.func21, Tryz.ntmps21
  go_wp2
  refine wp_loop_rounds 1 ?_
  rw [rounds_succ]
  go_wp2
  go_ret
  exact ⟨rfl, rfl⟩
set_option maxHeartbeats 2000000 in
set_option maxRecDepth 100000 in
theorem weq_some (b o b2 o2 n c d : Nat) (w : World) (hn : n ≤ 100000) (X : Nat → List UInt8) (P : Nat → Option Addr) (C : Nat → Nat)
    (hY : ∀ i, i < n → w.cell? ⟨b, o + i, none⟩ = some (.slice (P i) (X i).length (C i))) (hZ : ∀ i, i < n → w.cell? ⟨b2, o2 + i, none⟩ = some (.string ⟨(X i).toArray⟩))
    (hR : ∀ i, i < n → BRow w (P i) (X i) ∧ (P i = none → (X i).length = 0 ∧ C i = 0)) :
    Calls Tryz.prog 21 #[.slice (some ⟨b, o, none⟩) n c, .slice (some ⟨b2, o2, none⟩) n d, .func (Fn.func 22) #[] #[]] w fun e w' => e = .returned (.bool true) ∧ w' = w := by
  have HR : Hid (∀ i, i < n → Calls Tryz.prog 22 #[.slice (P i) (X i).length (C i), .string ⟨(X i).toArray⟩] w fun e w' => e = .returned (.bool true) ∧ w' = w) := fun i hi => wclos_any (P i) _ (C i) (X i) rfl w (hR i hi).1 (hR i hi).2
  have HY : Hid (∀ i, i < n → w.cell? ⟨b, o + i, none⟩ = some (.slice (P i) (X i).length (C i))) := hY
  have HZ : Hid (∀ i, i < n → w.cell? ⟨b2, o2 + i, none⟩ = some (.string ⟨(X i).toArray⟩)) := hZ
  clear hY hZ hR
  go_enter Tryz.func21, Tryz.ntmps21
  go_wp2_with fail
  go_loop [17] (fun iv => ∃ k : Nat, k ≤ n ∧ iv = .int .i64 k) (fun iv => n - (intOf iv).toNat)
  case atStart => exact ⟨0, Nat.zero_le _, rfl⟩
  case round =>
    obtain ⟨k, hk, rfl⟩ := hrel
    by_cases hlt : k < n
    · have hlz : (k : Int) < (n : Int) := by omega
      have h1 := HY.out k hlt
      have h2 := HZ.out k hlt
      have CF : Hid (Calls Tryz.prog 22 #[.slice (P k) (X k).length (C k), .string ⟨(X k).toArray⟩] w fun e w' => e = .returned (.bool true) ∧ w' = w) := HR.out k hlt
      generalize (X k).length = m at *
      generalize P k = pk at *
      generalize C k = ck at *
      generalize (ByteArray.mk (X k).toArray) = tx at *
      go_wp2_with fail
      refine CF.out.mono ?_
      rintro e w2 ⟨rfl, hw2⟩
      have hw3 := hw2.symm
      subst hw3
      clear CF
      go_wp2_with fail
      go_round
      case rel => exact ⟨k + 1, by omega, by go_num⟩
      case measure => simp [intOf]; omega
    · obtain rfl : k = n := by omega
      go_wp2_with fail
      go_ret
      exact ⟨rfl, rfl⟩
end Go.Proofs.YtlndhdimamnnlaaGreatDoor

/- Plain facts: the text that the law MimeWraps makes, and what strings.Contains of all parts joined tells of each. No program. -/
namespace Go.Proofs.YtlndhdimamnnlaaGreatDoor

/-- A part behind its border, as the law puts it. -/
def wrapP (br t : List UInt8) : List UInt8 := crlf2 ++ dd ++ br ++ crlf2 ++ t
theorem wraps_eq (br behind : List UInt8) : ∀ (ts : List (List UInt8)) (ahead : List UInt8), ahead ++ ts.flatMap (wrapP br) ++ (crlf2 ++ dd ++ br ++ dd ++ crlf2 ++ behind) = ahead ++ crlf2 ++ (ts.flatMap (pieceT br) ++ (lastT br ++ behind))
  | [], ahead => by simp [lastT]
  | t :: ts, ahead => by
    have h := wraps_eq br behind ts (ahead ++ wrapP br t)
    have e1 : ahead ++ (t :: ts).flatMap (wrapP br) = ahead ++ wrapP br t ++ ts.flatMap (wrapP br) := by simp
    rw [e1, h]
    simp [wrapP, pieceT]
theorem no_infix_of {s sub : List UInt8} (h : Lib.contains s sub = false) : ¬ sub <:+: s := by
  rintro ⟨a, b, e⟩
  unfold Lib.contains at h
  rcases Lib.index_spec s sub with ⟨_, h2⟩ | ⟨i, h1, _⟩
  · have h3 := h2 a.length (by rw [← e]; simp)
    unfold Lib.occAt at h3
    rw [← e, List.append_assoc, List.drop_left] at h3
    rw [List.isPrefixOf_iff_prefix.2 (List.prefix_append _ _)] at h3
    cases h3
  · rw [h1] at h
    simp at h
theorem tail_infix (sep : List UInt8) : ∀ (r : List (List UInt8)) (x : List UInt8), x ∈ r → x <:+: Lib.joinTail sep r
  | y :: r, x, h => by
    have e : Lib.joinTail sep (y :: r) = sep ++ y ++ Lib.joinTail sep r := by simp [Lib.joinTail]
    rw [e]
    rcases List.mem_cons.1 h with rfl | h
    · exact ⟨sep, _, rfl⟩
    · obtain ⟨a, b, h2⟩ := tail_infix sep r x h
      exact ⟨sep ++ y ++ a, b, by rw [← h2]; simp⟩
theorem join_infix (sep : List UInt8) (xs : List (List UInt8)) (x : List UInt8) (h : x ∈ xs) : x <:+: Lib.join xs sep := by
  cases xs with
  | nil => cases h
  | cons y r =>
    rw [Lib.join_cons]
    rcases List.mem_cons.1 h with rfl | h
    · exact ⟨[], _, rfl⟩
    · obtain ⟨a, b, h2⟩ := tail_infix sep r x h
      exact ⟨y ++ a, b, by rw [← h2]; simp⟩
theorem join_len (sep : List UInt8) (xs : List (List UInt8)) : (Lib.join xs sep).length ≤ sep.length * xs.length + Lib.lens xs := by
  cases xs with
  | nil => simp [Lib.join_nil]
  | cons x r =>
    rw [Lib.join_length]
    have := Nat.mul_le_mul_left sep.length (show r.length ≤ (x :: r).length by simp)
    omega
/-- The law's text is split into what was put there. -/
theorem wraps_split (br ahead behind : List UInt8) (h : BrOk br) (h60 : br.length ≤ 60) (all : List (List UInt8)) (k : Nat)
    (hc : Lib.contains (Lib.join (all ++ [ahead]) [32]) (dd ++ br) = false)
    (h4 : (ahead ++ (all.take k).flatMap (wrapP br) ++ (crlf2 ++ dd ++ br ++ dd ++ crlf2 ++ behind)).length ≤ 40000) :
    splitS (ahead ++ (all.take k).flatMap (wrapP br) ++ (crlf2 ++ dd ++ br ++ dd ++ crlf2 ++ behind)) br = (all.take k, 0) := by
  have hn := no_infix_of hc
  rw [wraps_eq] at h4 ⊢
  exact splitS_wraps br ahead behind h h60 _ (fun t ht hi => hn (hi.trans (join_infix _ _ _ (by simp [List.mem_of_mem_take ht])))) (fun hi => hn (hi.trans (join_infix _ _ _ (by simp)))) h4
end Go.Proofs.YtlndhdimamnnlaaGreatDoor

/- A number brought within bounds, by the law's own function. -/
namespace Go.Proofs.YtlndhdimamnnlaaGreatDoor
open Go.RowKit

theorem at_any (k : Int) (n : Nat) (nn : Int) (en : nn = n) (w : World) (hn : 0 < n) (hn' : n ≤ 1000000) :
    Calls Tryz.prog 17 #[.int .i64 k, .int .i64 nn] w fun e w' => ∃ r : Nat, r < n ∧ e = .returned (.int .i64 (r : Int)) ∧ w' = w := by
  subst en
  have h1 : (0 : Int) < (n : Int) := by omega
  have h2 : (n : Int) ≤ 1000000 := by omega
  have hne : ¬ (n : Int) = 0 := by omega
  have hb1 := Int.tmod_lt_of_pos k h1
  have hb2 : -(n : Int) < k.tmod n := by
    have := Int.tmod_lt_of_pos (-k) h1
    rw [Int.neg_tmod] at this
    omega
  by_cases hneg : k.tmod n < 0
  · go_enter Tryz.func17, Tryz.ntmps17
    go_wp2
    go_ret
    exact ⟨(k.tmod n + n).toNat, by omega, ret_i64 (by omega), rfl⟩
  · go_enter Tryz.func17, Tryz.ntmps17
    go_wp2
    go_ret
    exact ⟨(k.tmod n).toNat, by omega, ret_i64 (by omega), rfl⟩
end Go.Proofs.YtlndhdimamnnlaaGreatDoor
