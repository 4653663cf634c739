/- slices.Concat of two lists of parts answers both, one behind the other, in new memory. Nothing that was there is changed. Conditions: the cells lie there. -/
import Derived.Test.YtehiaenicfmpbaaDoorPCells
import Derived.Laws.AppendOwnNone
import Derived.Lib.AppendZeros
namespace Go.Proofs.YtehiaenicfmpbaaDoor
open Go.RowKit

theorem infoP : (Tryd.prog.info? 65).map (fun i => (i.zero, i.size, i.bytes)) = some (some (.agg #[.string ⟨#[]⟩, .string ⟨#[]⟩, .string ⟨#[]⟩, .string ⟨#[]⟩, .int .i64 0, .slice none 0 0, .slice none 0 0]), 7, 120) := by kernel_rfl

theorem append_rowP {w : World} {ops : Array Oper} {rest : List Oper} {o : Oper} {a : Act} {Q : Exit → Act → World → Prop} (hgd : o.guard = none) (s x : Operand)
    (ho : o.op = .call { callee := .builtin .append, args := #[s, x], argTypes := #[63, 63] })
    (base : Nat) (v : Value) (n : Nat) (xs : List Value) (hs : a.eval s = v) (hown : w.ownsRow base 65 7 v n xs)
    (p : Option Addr) (l : List Value) (m c : Nat) (em : l.length = m * 7) (hx : a.eval x = .slice p m c) (hr : Cells w p l) (h1c : ∀ u ∈ l, u.oneCell' = true) (hp : p = none → m = 0 ∧ c = 0)
    (h63 : n + m ≤ 100000000) (hbase : base ≤ w.heap.size)
    (h : ∀ v' w', w'.ownsRow base 65 7 v' (n + m) (xs ++ l) → w.grownBy w' v.ownBlock → wpList Tryd.prog ops Q rest (a.put o.dst v') w') : wpList Tryd.prog ops Q (o :: rest) a w := by
  obtain ⟨i0, hi, hz0, hz1, hz2⟩ := info_parts infoP
  cases p with
  | none =>
    obtain ⟨rfl, rfl⟩ := hp rfl
    have hl : l = [] := List.length_eq_zero_iff.1 (em.trans (Nat.zero_mul _))
    subst hl
    refine wpList_append_own_none hgd s x 63 ho base 65 i0 7 Tryd.underlying63 hi v n xs hs hown hx ?_
    refine h v w (by simpa using hown) (World.grownBy.refl _ _)
  | some ad =>
    refine wpList_append_own _ hgd s x 63 ho base 65 i0 (.agg #[.string ⟨#[]⟩, .string ⟨#[]⟩, .string ⟨#[]⟩, .string ⟨#[]⟩, .int .i64 0, .slice none 0 0, .slice none 0 0]) 7 120 Tryd.underlying63 hi hz0 hz1 hz2 rfl (by decide) v n xs hs hown ad m c l hx em ?_ h1c (by unfold maxLen; omega) (by omega) hbase (fun v' w' h1 h2 _ => h v' w' h1 h2)
    intro j u hj
    obtain ⟨b, o', e, hc⟩ := hr (fun e => by rw [e] at hj; simp at hj)
    obtain rfl := Option.some.inj e
    rw [Addr.add_lit]
    exact hc j u hj

set_option maxHeartbeats 1000000 in
set_option maxRecDepth 100000 in
theorem growNilP (N : Nat) (NN : Int) (eN : NN = (N : Int)) (hN : N ≤ 100000) (w : World) :
    Calls Tryd.prog 166 #[.slice none 0 0, .int .i64 NN] w fun e w' => Below w.heap.size w w' ∧ ∃ p c, e = .returned (.slice p 0 c) ∧ w'.ownsRow w.heap.size 65 7 (.slice p 0 c) 0 [] := by
  subst eN
  obtain ⟨i0, hi, hz0, hz1, hz2⟩ := info_parts infoP
  rcases Nat.eq_zero_or_pos N with h0 | h0
  · subst h0
    go_enter Tryd.func166, Tryd.ntmps166
    go_wp2
    go_ret
    exact ⟨Below.refl _ _, none, 0, rfl, World.ownsRow_nil _ _ _ _⟩
  · have h0' : (0 : Int) < (N : Int) := by omega
    have hr := fun ty => Lib.run_append_nil_zeros (P := Tryd.prog) w 63 3 ty 65 i0 (.agg #[.string ⟨#[]⟩, .string ⟨#[]⟩, .string ⟨#[]⟩, .string ⟨#[]⟩, .int .i64 0, .slice none 0 0, .slice none 0 0]) .i64 .i64 Tryd.underlying63 Tryd.underlying3 hi hz0 N h0 (by rw [hz1]; decide) (by omega) (by rw [hz2]; omega)
    obtain ⟨G, hG⟩ : ∃ G, grownCap w N 0 65 = G := ⟨_, rfl⟩
    have hGe : N ≤ G := by rw [← hG]; exact grownCap_ge w _ _ _
    have hGm : G ≤ maxLen := by rw [← hG]; exact grownCap_le_maxLen w N 0 65 (by unfold maxLen; omega)
    rw [hG] at hr
    have hGi : (N : Int) ≤ (G : Int) := by omega
    clear hG
    go_enter Tryd.func166, Tryd.ntmps166
    go_wp2_with (at_builtin; refine Lib.wpList_append_run _ rfl (.tmp 20) (.tmp 21) 63 3 rfl _ _ rfl rfl _ _ (hr _) ?_)
    clear hr
    go_wp2
    go_ret
    refine ⟨((Below.refl _ _).alloc (Nat.le_refl _) _).drew, some ⟨w.heap.size, 0, none⟩, G, rfl, ?_⟩
    refine ⟨rfl, .inr ⟨w.heap.size, G, Builtin.zeroCells #[.string ⟨#[]⟩, .string ⟨#[]⟩, .string ⟨#[]⟩, .string ⟨#[]⟩, .int .i64 0, .slice none 0 0, .slice none 0 0] N ++ Builtin.zeroCells #[.string ⟨#[]⟩, .string ⟨#[]⟩, .string ⟨#[]⟩, .string ⟨#[]⟩, .int .i64 0, .slice none 0 0, .slice none 0 0] (G - N), rfl, Nat.le_refl _, ?_, Nat.zero_le _, hGm, ?_, ?_⟩⟩
    · show (w.heap.push _)[w.heap.size]? = _
      simp
    · rw [Array.size_append, size_zeroCells, size_zeroCells]
      show N * 7 + (G - N) * 7 = G * 7
      omega
    · simp

set_option maxHeartbeats 2000000 in
set_option maxRecDepth 100000 in
theorem concatP (g : Nat) (p q : Option Addr) (n m c d : Nat) (L M : List Value) (en : L.length = n * 7) (em : M.length = m * 7) (w : World) (h1 : w.cell? ⟨g, 0, none⟩ = some (.slice p n c)) (h2 : w.cell? ⟨g, 1, none⟩ = some (.slice q m d))
    (hL : Cells w p L) (hM : Cells w q M) (oL : ∀ u ∈ L, u.oneCell' = true) (oM : ∀ u ∈ M, u.oneCell' = true) (hp : p = none → n = 0 ∧ c = 0) (hq : q = none → m = 0 ∧ d = 0) (hn : n + m ≤ 50000) :
    Calls Tryd.prog 128 #[.slice (some ⟨g, 0, none⟩) 2 2] w fun e w' => Below w.heap.size w w' ∧ ∃ p' c', e = .returned (.slice p' (n + m) c') ∧ w'.ownsRow w.heap.size 65 7 (.slice p' (n + m) c') (n + m) (L ++ M) := by
  have hg : g < w.heap.size := World.block_lt_of_cell? w _ h1
  have HE : Hid (L.length = n * 7 ∧ M.length = m * 7) := ⟨en, em⟩
  have HL : Hid (Cells w p L) := hL
  have HM : Hid (Cells w q M) := hM
  have HP : Hid (p = none → n = 0 ∧ c = 0) := hp
  have HQ : Hid (q = none → m = 0 ∧ d = 0) := hq
  have HO : Hid ((∀ u ∈ L, u.oneCell' = true) ∧ (∀ u ∈ M, u.oneCell' = true)) := ⟨oL, oM⟩
  clear hL hM hp hq en em oL oM
  go_enter Tryd.func128, Tryd.ntmps128
  go_wp2
  refine wp_loop_rounds 3 ?_
  rw [rounds_succ]
  go_wp2
  rw [rounds_succ]
  go_wp2
  rw [rounds_succ]
  go_wp2_with fail
  refine (growNilP (n + m) _ (by omega) (by omega) _).mono ?_
  rintro e w1 ⟨hb1, p1, c1, rfl, hown1⟩
  have h1' : w1.cell? ⟨g, 0, none⟩ = some (.slice p n c) := (hb1.cell (p := ⟨g, 0, none⟩) hg).trans h1
  have h2' : w1.cell? ⟨g, 1, none⟩ = some (.slice q m d) := (hb1.cell (p := ⟨g, 1, none⟩) hg).trans h2
  have hL1 : Hid (Cells w1 p L) := HL.out.below hb1
  have hsz1 := hb1.size
  go_wp2
  refine wp_loop_rounds 3 ?_
  rw [rounds_succ]
  go_wp2_with (at_builtin; refine append_rowP rfl (.tmp 31) (.tmp 32) rfl w.heap.size _ _ _ rfl hown1 p L n c HE.out.1 rfl hL1.out HO.out.1 HP.out (by omega) hsz1 ?_)
  intro v2 w2 hown2 hg2
  have hb2 : Below w.heap.size w w2 := hb1.grown hg2 hsz1 fun j hj => (hown1.lt j hj).1
  have h2'' : w2.cell? ⟨g, 1, none⟩ = some (.slice q m d) := (hb2.cell (p := ⟨g, 1, none⟩) hg).trans h2
  have hM2 : Hid (Cells w2 q M) := HM.out.below hb2
  have hsz2 := hb2.size
  clear hg2 hown1 h1' h2' hL1 hb1
  go_wp2
  rw [rounds_succ]
  go_wp2_with (at_builtin; refine append_rowP rfl (.tmp 31) (.tmp 32) rfl w.heap.size _ _ _ rfl hown2 q M m d HE.out.2 rfl hM2.out HO.out.2 HQ.out (by omega) hsz2 ?_)
  intro v3 w3 hown3 hg3
  have hb3 : Below w.heap.size w w3 := hb2.grown hg3 hsz2 fun j hj => (hown2.lt j hj).1
  have R : Hid (w3.ownsRow w.heap.size 65 7 v3 (n + m) (L ++ M)) := by
    unfold Hid
    simpa using hown3
  obtain ⟨p3, c3, rfl⟩ := owned_slice R.out
  clear hg3 hown2 hown3 h2'' hM2 hb2
  go_wp2
  rw [rounds_succ]
  go_wp2
  go_ret
  exact ⟨hb3, p3, c3, rfl, R.out⟩
end Go.Proofs.YtehiaenicfmpbaaDoor
