/- slices.Concat of two lists of bytes answers both, one behind the other, in new memory. Nothing that was there is changed. Conditions: the bytes lie there, and are not too many. -/
import Derived.Test.YtnfidloiediflacDoorCommon
import Derived.Laws.AppendOwnNone
import Derived.Lib.AppendZeros
namespace Go.Proofs.YtnfidloiediflacDoor
open Go.RowKit

theorem lappend_brow {w : World} {ops : Array Oper} {rest : List Oper} {o : Oper} {a : Act} {Q : Exit → Act → World → Prop} (hgd : o.guard = none) (s x : Operand)
    (ho : o.op = .call { callee := .builtin .append, args := #[s, x], argTypes := #[22, 22] })
    (base : Nat) (v : Value) (n : Nat) (xs : List Value) (hs : a.eval s = v) (hown : w.ownsRow base 5 1 v n xs)
    (p : Option Addr) (l : List UInt8) (m c : Nat) (em : m = l.length) (hx : a.eval x = .slice p m c) (hr : BRow w p l) (hp : p = none → m = 0 ∧ c = 0)
    (h63 : n + m ≤ 140737488355328) (hbase : base ≤ w.heap.size)
    (h : ∀ v' w', w'.ownsRow base 5 1 v' (n + m) (xs ++ bv l) → w.grownBy w' v.ownBlock → wpList Tryd.prog ops Q rest (a.put o.dst v') w') : wpList Tryd.prog ops Q (o :: rest) a w := by
  obtain ⟨i0, hi, hz0, hz1, hz2⟩ := info_parts info_u8
  subst em
  cases p with
  | none =>
    obtain ⟨h0, rfl⟩ := hp rfl
    have hl : l = [] := List.length_eq_zero_iff.1 h0
    subst hl
    refine wpList_append_own_none hgd s x 22 ho base 5 i0 1 Tryd.underlying22 hi v n xs hs hown hx ?_
    refine h v w (by simpa [bv] using hown) (World.grownBy.refl _ _)
  | some ad =>
    refine wpList_append_own _ hgd s x 22 ho base 5 i0 (.int .u8 0) 1 1 Tryd.underlying22 hi hz0 hz1 hz2 rfl (by decide) v n xs hs hown ad l.length c (bv l) hx (by rw [bv_length]; omega) ?_ ?_ (by unfold maxLen; omega) (by omega) hbase (fun v' w' h1 h2 _ => h v' w' h1 h2)
    · intro j u hj
      have hjl : j < l.length := by
        have := (List.getElem?_eq_some_iff.1 hj).1
        rwa [bv_length] at this
      obtain ⟨b, o', e, hc⟩ := hr (fun e => by rw [e] at hjl; exact absurd hjl (by simp))
      obtain rfl := Option.some.inj e
      rw [Addr.add_lit, hc j hjl]
      have : (bv l)[j]? = some (.int .u8 ((l.getD j 0).toNat : Int)) := by simp [bv, hjl, List.getD_eq_getElem?_getD]
      rw [← this, hj]
    · intro u hu
      simp only [bv, List.mem_map] at hu
      obtain ⟨c, _, rfl⟩ := hu
      rfl

set_option maxHeartbeats 1000000 in
set_option maxRecDepth 100000 in
theorem lgrow_nil (N : Nat) (NN : Int) (eN : NN = (N : Int)) (hN : N ≤ 140737488355328) (w : World) :
    Calls Tryd.prog 17 #[.slice none 0 0, .int .i64 NN] w fun e w' => Below w.heap.size w w' ∧ ∃ p c, e = .returned (.slice p 0 c) ∧ w'.ownsRow w.heap.size 5 1 (.slice p 0 c) 0 [] := by
  subst eN
  obtain ⟨i0, hi, hz0, hz1, hz2⟩ := info_parts info_u8
  rcases Nat.eq_zero_or_pos N with h0 | h0
  · subst h0
    go_enter Tryd.func17, Tryd.ntmps17
    go_wp2
    go_ret
    exact ⟨Below.refl _ _, none, 0, rfl, World.ownsRow_nil _ _ _ _⟩
  · have h0' : (0 : Int) < (N : Int) := by omega
    have hr := fun ty => Lib.run_append_nil_zeros (P := Tryd.prog) w 22 3 ty 5 i0 (.int .u8 0) .i64 .i64 Tryd.underlying22 Tryd.underlying3 hi hz0 N h0 (by rw [hz1]; decide) (by omega) (by rw [hz2]; omega)
    obtain ⟨G, hG⟩ : ∃ G, grownCap w N 0 5 = G := ⟨_, rfl⟩
    have hGe : N ≤ G := by rw [← hG]; exact grownCap_ge w _ _ _
    have hGm : G ≤ maxLen := by rw [← hG]; exact grownCap_le_maxLen w N 0 5 (by unfold maxLen; omega)
    rw [hG] at hr
    have hGi : (N : Int) ≤ (G : Int) := by omega
    clear hG
    go_enter Tryd.func17, Tryd.ntmps17
    go_wp2_with (at_builtin; refine Lib.wpList_append_run _ rfl (.tmp 20) (.tmp 21) 22 3 rfl _ _ rfl rfl _ _ (hr _) ?_)
    clear hr
    go_wp2
    go_ret
    refine ⟨((Below.refl _ _).alloc (Nat.le_refl _) _).drew, some ⟨w.heap.size, 0, none⟩, G, rfl, ?_⟩
    refine ⟨rfl, .inr ⟨w.heap.size, G, Builtin.zeroCells #[.int .u8 0] N ++ Builtin.zeroCells #[.int .u8 0] (G - N), rfl, Nat.le_refl _, ?_, Nat.zero_le _, hGm, ?_, ?_⟩⟩
    · show (w.heap.push _)[w.heap.size]? = _
      simp
    · rw [Array.size_append, size_zeroCells, size_zeroCells]
      show N * 1 + (G - N) * 1 = G * 1
      omega
    · simp

set_option maxHeartbeats 2000000 in
set_option maxRecDepth 100000 in
theorem lconcat_two (g : Nat) (p q : Option Addr) (n m c d : Nat) (L M : List UInt8) (en : n = L.length) (em : m = M.length) (w : World) (h1 : w.cell? ⟨g, 0, none⟩ = some (.slice p n c)) (h2 : w.cell? ⟨g, 1, none⟩ = some (.slice q m d))
    (hL : BRow w p L) (hM : BRow w q M) (hp : p = none → n = 0 ∧ c = 0) (hq : q = none → m = 0 ∧ d = 0) (hn : n + m ≤ 140737488355328) :
    Calls Tryd.prog 10 #[.slice (some ⟨g, 0, none⟩) 2 2] w fun e w' => Below w.heap.size w w' ∧ ∃ p' c', e = .returned (.slice p' (n + m) c') ∧ n + m ≤ c' ∧ c' ≤ maxLen ∧ BRow w' p' (L ++ M) ∧ (p' = none → n + m = 0 ∧ c' = 0) := by
  have hg : g < w.heap.size := World.block_lt_of_cell? w _ h1
  have HE : Hid (n = L.length ∧ m = M.length) := ⟨en, em⟩
  have HL : Hid (BRow w p L) := hL
  have HM : Hid (BRow w q M) := hM
  have HP : Hid (p = none → n = 0 ∧ c = 0) := hp
  have HQ : Hid (q = none → m = 0 ∧ d = 0) := hq
  clear hL hM hp hq en em
  go_enter Tryd.func10, Tryd.ntmps10
  go_wp2
  refine wp_loop_rounds 3 ?_
  rw [rounds_succ]
  go_wp2
  rw [rounds_succ]
  go_wp2
  rw [rounds_succ]
  go_wp2_with fail
  refine (lgrow_nil (n + m) _ (by omega) (by omega) _).mono ?_
  rintro e w1 ⟨hb1, p1, c1, rfl, hown1⟩
  have h1' : w1.cell? ⟨g, 0, none⟩ = some (.slice p n c) := (hb1.cell (p := ⟨g, 0, none⟩) hg).trans h1
  have h2' : w1.cell? ⟨g, 1, none⟩ = some (.slice q m d) := (hb1.cell (p := ⟨g, 1, none⟩) hg).trans h2
  have hL1 : Hid (BRow w1 p L) := HL.out.below hb1
  have hsz1 := hb1.size
  go_wp2
  refine wp_loop_rounds 3 ?_
  rw [rounds_succ]
  go_wp2_with (at_builtin; refine lappend_brow rfl (.tmp 31) (.tmp 32) rfl w.heap.size _ _ _ rfl hown1 p L n c HE.out.1 rfl hL1.out HP.out (by omega) hsz1 ?_)
  intro v2 w2 hown2 hg2
  have hb2 : Below w.heap.size w w2 := hb1.grown hg2 hsz1 fun j hj => (hown1.lt j hj).1
  have h2'' : w2.cell? ⟨g, 1, none⟩ = some (.slice q m d) := (hb2.cell (p := ⟨g, 1, none⟩) hg).trans h2
  have hM2 : Hid (BRow w2 q M) := HM.out.below hb2
  have hsz2 := hb2.size
  clear hg2 hown1 h1' h2' hL1 hb1
  go_wp2
  rw [rounds_succ]
  go_wp2_with (at_builtin; refine lappend_brow rfl (.tmp 31) (.tmp 32) rfl w.heap.size _ _ _ rfl hown2 q M m d HE.out.2 rfl hM2.out HQ.out (by omega) hsz2 ?_)
  intro v3 w3 hown3 hg3
  have hb3 : Below w.heap.size w w3 := hb2.grown hg3 hsz2 fun j hj => (hown2.lt j hj).1
  have hlen : 0 + n + m = (L ++ M).length := by rw [List.length_append, HE.out.1, HE.out.2]; omega
  have R : w3.ownsRow w.heap.size 5 1 v3 (L ++ M).length (bv (L ++ M)) := by
    rw [← hlen, bv_append]
    simpa using hown3
  obtain ⟨p3, c3, rfl, k1, k2, k3, hr3⟩ := owned_row R
  have HR : Hid (BRow w3 p3 (L ++ M)) := hr3
  rw [← hlen, Nat.zero_add] at k1 k3
  have e3 : (L ++ M).length = n + m := by rw [← hlen, Nat.zero_add]
  rw [e3]
  clear hg3 hown2 hown3 h2'' hM2 hb2 R hr3 hlen e3
  go_wp2
  rw [rounds_succ]
  go_wp2
  go_ret
  exact ⟨hb3, p3, c3, rfl, k1, k2, HR.out, k3⟩
end Go.Proofs.YtnfidloiediflacDoor
