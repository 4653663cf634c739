
import Derived.Laws.AppendOwnNone
import Derived.Lib.AppendZeros
import Derived.Test.YtlndhdimamnnlaaGreatDoorXmimesays18
import Derived.Test.YtlndhdimamnnlaaGreatDoorXmimesays19
import Derived.Deep.AppendLies
namespace Go.Proofs.YtlndhdimamnnlaaGreatDoor
open Go.RowKit
theorem infoP : (Tryz.prog.info? 25).map (fun i => (i.zero, i.size, i.bytes)) = some (some (.agg #[.string ⟨#[]⟩, .string ⟨#[]⟩, .string ⟨#[]⟩, .string ⟨#[]⟩, .int .i64 0, .slice none 0 0, .slice none 0 0]), 7, 120) := by kernel_rfl
theorem append_rowP {w : World} {ops : Array Oper} {rest : List Oper} {o : Oper} {a : Act} {Q : Exit → Act → World → Prop} (hgd : o.guard = none) (s x : Operand)
  (ho : o.op = .call { callee := .builtin .append, args := #[s, x], argTypes := #[23, 23] })
  (base : Nat) (v : Value) (n : Nat) (xs : List Value) (hs : a.eval s = v) (hown : w.ownsRow base 25 7 v n xs)
  (p : Option Addr) (l : List Value) (m c : Nat) (em : l.length = m * 7) (hx : a.eval x = .slice p m c) (hr : Cells w p l) (h1c : ∀ u ∈ l, u.oneCell' = true) (hp : p = none → m = 0 ∧ c = 0)
  (h63 : n + m ≤ 100000000) (hbase : base ≤ w.heap.size)
  (h : ∀ v' w', w'.ownsRow base 25 7 v' (n + m) (xs ++ l) → w.grownBy w' v.ownBlock → wpList Tryz.prog ops Q rest (a.put o.dst v') w') : wpList Tryz.prog ops Q (o :: rest) a w := by
 obtain ⟨i0, hi, hz0, hz1, hz2⟩ := info_parts infoP
 cases p with
 | none =>
  obtain ⟨rfl, rfl⟩ := hp rfl
  have hl : l = [] := List.length_eq_zero_iff.1 (em.trans (Nat.zero_mul _))
  subst hl
  refine wpList_append_own_none hgd s x 23 ho base 25 i0 7 Tryz.underlying23 hi v n xs hs hown hx ?_
  refine h v w (by simpa using hown) (World.grownBy.refl _ _)
 | some ad =>
  refine wpList_append_own _ hgd s x 23 ho base 25 i0 (.agg #[.string ⟨#[]⟩, .string ⟨#[]⟩, .string ⟨#[]⟩, .string ⟨#[]⟩, .int .i64 0, .slice none 0 0, .slice none 0 0]) 7 120 Tryz.underlying23 hi hz0 hz1 hz2 rfl (by decide) v n xs hs hown ad m c l hx em ?_ h1c (by unfold maxLen; omega) (by omega) hbase (fun v' w' h1 h2 _ => h v' w' h1 h2)
  intro j u hj
  obtain ⟨b, o', e, hc⟩ := hr (fun e => by rw [e] at hj; simp at hj)
  obtain rfl := Option.some.inj e
  rw [Addr.add_lit]
  exact hc j u hj
set_option maxHeartbeats 1000000 in
set_option maxRecDepth 100000 in
theorem growNilP (N : Nat) (NN : Int) (eN : NN = (N : Int)) (hN : N ≤ 100000) (w : World) :
  Calls Tryz.prog 123 #[.slice none 0 0, .int .i64 NN] w fun e w' => Below w.heap.size w w' ∧ ∃ p c, e = .returned (.slice p 0 c) ∧ w'.ownsRow w.heap.size 25 7 (.slice p 0 c) 0 [] := by
 subst eN
 obtain ⟨i0, hi, hz0, hz1, hz2⟩ := info_parts infoP
 rcases Nat.eq_zero_or_pos N with h0 | h0
 ·subst h0
  go_enter Tryz.func123, Tryz.ntmps123
  go_wp2
  go_ret
  exact ⟨Below.refl _ _, none, 0, rfl, World.ownsRow_nil _ _ _ _⟩
 ·have h0' : (0 : Int) < (N : Int) := by omega
  have hr := fun ty => Lib.run_append_nil_zeros (P := Tryz.prog) w 23 3 ty 25 i0 (.agg #[.string ⟨#[]⟩, .string ⟨#[]⟩, .string ⟨#[]⟩, .string ⟨#[]⟩, .int .i64 0, .slice none 0 0, .slice none 0 0]) .i64 .i64 Tryz.underlying23 Tryz.underlying3 hi hz0 N h0 (by rw [hz1]; decide) (by omega) (by rw [hz2]; omega)
  obtain ⟨G, hG⟩ : ∃ G, grownCap w N 0 25 = G := ⟨_, rfl⟩
  have hGe : N ≤ G := by rw [← hG]; exact grownCap_ge w _ _ _
  have hGm : G ≤ maxLen := by rw [← hG]; exact grownCap_le_maxLen w N 0 25 (by unfold maxLen; omega)
  rw [hG] at hr
  have hGi : (N : Int) ≤ (G : Int) := by omega
  clear hG
  go_enter Tryz.func123, Tryz.ntmps123
  go_wp2_with (at_builtin; refine Lib.wpList_append_run _ rfl (.tmp 20) (.tmp 21) 23 3 rfl _ _ rfl rfl _ _ (hr _) ?_)
  clear hr
  go_wp2
  go_ret
  refine ⟨((Below.refl _ _).alloc (Nat.le_refl _) _).drew, some ⟨w.heap.size, 0, none⟩, G, rfl, ?_⟩
  refine ⟨rfl, .inr ⟨w.heap.size, G, Builtin.zeroCells #[.string ⟨#[]⟩, .string ⟨#[]⟩, .string ⟨#[]⟩, .string ⟨#[]⟩, .int .i64 0, .slice none 0 0, .slice none 0 0] N ++ Builtin.zeroCells #[.string ⟨#[]⟩, .string ⟨#[]⟩, .string ⟨#[]⟩, .string ⟨#[]⟩, .int .i64 0, .slice none 0 0, .slice none 0 0] (G - N), rfl, Nat.le_refl _, ?_, Nat.zero_le _, hGm, ?_, ?_⟩⟩
  ·show (w.heap.push _)[w.heap.size]? = _
   simp
  ·rw [Array.size_append, size_zeroCells, size_zeroCells]
   show N * 7 + (G - N) * 7 = G * 7
   omega
  ·simp
set_option maxHeartbeats 2000000 in
set_option maxRecDepth 100000 in
theorem concatP (g : Nat) (p q : Option Addr) (n m c d : Nat) (L M : List Value) (en : L.length = n * 7) (em : M.length = m * 7) (w : World) (h1 : w.cell? ⟨g, 0, none⟩ = some (.slice p n c)) (h2 : w.cell? ⟨g, 1, none⟩ = some (.slice q m d))
  (hL : Cells w p L) (hM : Cells w q M) (oL : ∀ u ∈ L, u.oneCell' = true) (oM : ∀ u ∈ M, u.oneCell' = true) (hp : p = none → n = 0 ∧ c = 0) (hq : q = none → m = 0 ∧ d = 0) (hn : n + m ≤ 50000) :
  Calls Tryz.prog 70 #[.slice (some ⟨g, 0, none⟩) 2 2] w fun e w' => Below w.heap.size w w' ∧ ∃ p' c', e = .returned (.slice p' (n + m) c') ∧ w'.ownsRow w.heap.size 25 7 (.slice p' (n + m) c') (n + m) (L ++ M) := by
 have hg : g < w.heap.size := World.block_lt_of_cell? w _ h1
 have HE : Hid (L.length = n * 7 ∧ M.length = m * 7) := ⟨en, em⟩
 have HL : Hid (Cells w p L) := hL
 have HM : Hid (Cells w q M) := hM
 have HP : Hid (p = none → n = 0 ∧ c = 0) := hp
 have HQ : Hid (q = none → m = 0 ∧ d = 0) := hq
 have HO : Hid ((∀ u ∈ L, u.oneCell' = true) ∧ (∀ u ∈ M, u.oneCell' = true)) := ⟨oL, oM⟩
 clear hL hM hp hq en em oL oM
 go_enter Tryz.func70, Tryz.ntmps70
 go_wp2
 refine wp_loop_rounds 3 ?_
 rw [rounds_succ]
 go_wp2
 rw [rounds_succ]
 go_wp2
 rw [rounds_succ]
 go_wp2_with fail
 refine (growNilP (n + m) _ (by omega) (by omega) _).mono ?_
 rintro e w1 ⟨hb1, p1, c1, rfl, hown1⟩
 have h1' : w1.cell? ⟨g, 0, none⟩ = some (.slice p n c) := (hb1.cell (p := ⟨g, 0, none⟩) hg).trans h1
 have h2' : w1.cell? ⟨g, 1, none⟩ = some (.slice q m d) := (hb1.cell (p := ⟨g, 1, none⟩) hg).trans h2
 have hL1 : Hid (Cells w1 p L) := HL.out.below hb1
 have hsz1 := hb1.size
 go_wp2
 refine wp_loop_rounds 3 ?_
 rw [rounds_succ]
 go_wp2_with (at_builtin; refine append_rowP rfl (.tmp 31) (.tmp 32) rfl w.heap.size _ _ _ rfl hown1 p L n c HE.out.1 rfl hL1.out HO.out.1 HP.out (by omega) hsz1 ?_)
 intro v2 w2 hown2 hg2
 have hb2 : Below w.heap.size w w2 := hb1.grown hg2 hsz1 fun j hj => (hown1.lt j hj).1
 have h2'' : w2.cell? ⟨g, 1, none⟩ = some (.slice q m d) := (hb2.cell (p := ⟨g, 1, none⟩) hg).trans h2
 have hM2 : Hid (Cells w2 q M) := HM.out.below hb2
 have hsz2 := hb2.size
 clear hg2 hown1 h1' h2' hL1 hb1
 go_wp2
 rw [rounds_succ]
 go_wp2_with (at_builtin; refine append_rowP rfl (.tmp 31) (.tmp 32) rfl w.heap.size _ _ _ rfl hown2 q M m d HE.out.2 rfl hM2.out HO.out.2 HQ.out (by omega) hsz2 ?_)
 intro v3 w3 hown3 hg3
 have hb3 : Below w.heap.size w w3 := hb2.grown hg3 hsz2 fun j hj => (hown2.lt j hj).1
 have R : Hid (w3.ownsRow w.heap.size 25 7 v3 (n + m) (L ++ M)) := by
  unfold Hid
  simpa using hown3
 obtain ⟨p3, c3, rfl⟩ := owned_slice R.out
 clear hg3 hown2 hown3 h2'' hM2 hb2
 go_wp2
 rw [rounds_succ]
 go_wp2
 go_ret
 exact ⟨hb3, p3, c3, rfl, R.out⟩
end Go.Proofs.YtlndhdimamnnlaaGreatDoor



namespace Go.Proofs.YtlndhdimamnnlaaGreatDoor
open Go.RowKit
theorem splitGo_len (border : List UInt8) (N : Nat) : ∀ (f : Nat) (rest : List UInt8) (cur : Option (List UInt8)) (out : List (List UInt8)) (l : List (List UInt8)), splitGo border f rest cur out = some l → (∀ c, cur = some c → c.length + rest.length ≤ N) → rest.length ≤ N → (∀ x ∈ out, x.length ≤ N) → ∀ x ∈ l, x.length ≤ N := by
 have hcl : ∀ (rest : List UInt8) (cur : Option (List UInt8)) (out : List (List UInt8)), (∀ c, cur = some c → c.length + rest.length ≤ N) → (∀ x ∈ out, x.length ≤ N) → ∀ x ∈ closed cur out, x.length ≤ N := by
  intro rest cur out hc ho x hx
  cases cur with
  | none => exact ho x hx
  | some c =>
   rcases List.mem_append.1 hx with h | h
   ·exact ho x h
   ·obtain rfl : x = stripE c := by simpa using h
    have h1 := noEnd_le 13 (noEnd 10 c)
    have h2 := noEnd_le 10 c
    have h3 := hc c rfl
    unfold stripE
    omega
 intro f
 induction f with
 | zero => intro rest cur out l h; rw [splitGo] at h; cases h
 | succ f ih =>
  intro rest cur out l h hc hr ho
  have hdl : (rest.drop (lineN rest)).length ≤ N := by rw [List.length_drop]; omega
  rw [splitGo] at h
  by_cases h1 : rest = []
  ·rw [if_pos h1] at h; cases h
  rw [if_neg h1] at h
  by_cases h2 : bareL (rest.take (lineN rest)) = dd ++ border ++ dd
  ·rw [if_pos h2] at h
   obtain rfl := Option.some.inj h
   exact hcl rest cur out hc ho
  rw [if_neg h2] at h
  by_cases h3 : bareL (rest.take (lineN rest)) = dd ++ border
  ·rw [if_pos h3] at h
   exact ih _ _ _ l h (fun c hcc => by cases hcc; simpa using hdl) hdl (hcl rest cur out hc ho)
  ·rw [if_neg h3] at h
   refine ih _ _ _ l h (fun c hcc => ?_) hdl ho
   cases cur with
   | none => cases hcc
   | some c0 =>
    obtain rfl := Option.some.inj hcc
    have := hc c0 rfl
    have hl := lineN_le rest
    rw [List.length_append, List.length_take, List.length_drop]
    omega
theorem splitS_len (b border : List UInt8) : ∀ x ∈ (splitS b border).1, x.length ≤ b.length := by
 unfold splitS
 split
 ·intro x hx; cases hx
 ·split
  ·intro x hx; cases hx
  ·cases h : splitGo border (b.length + 1) b none [] with
   | none => intro x hx; cases hx
   | some l => exact splitGo_len border b.length _ _ _ _ l h (fun c hc => by cases hc) (Nat.le_refl _) (fun x hx => by cases hx)
def RPost (f : Nat) (w : World) (g : Nat) (r : Nat × PT × Nat) (e : Ending) (w' : World) : Prop :=
 Ticks w g (r.2.2 : Int) w' ∧ (r.1 = 0 → ∃ pb cb pk ck, e = .returned (.tuple #[.agg #[.string r.2.1.ty, .string r.2.1.cs, .string r.2.1.id, .string r.2.1.loc, .int .i64 r.2.1.how, .slice pb r.2.1.body.length cb, .slice pk r.2.1.kids.length ck], .int .i64 0]) ∧ PFar w' (fun b => w.heap.size ≤ b ∧ b < w'.heap.size) f r.2.1 pb cb pk ck) ∧
 (r.1 ≠ 0 → ∃ s0 s1 s2 s3 h a1 n1 c1 a2 n2 c2, e = .returned (.tuple #[.agg #[.string s0, .string s1, .string s2, .string s3, .int .i64 h, .slice a1 n1 c1, .slice a2 n2 c2], .int .i64 (r.1 : Int)]))
def ReadC (w0 : World) (f : Nat) : Prop := ∀ (p : Option Addr) (n c : Nat) (L : List UInt8) (d g k : Nat) (w : World), n = L.length → f + d = 4 → Below w0.heap.size w0 w → w0.heap.size ≤ g → CountAt w g (k : Int) → n ≤ 40000 → n ≤ c → c ≤ maxLen → (p = none → n = 0 ∧ c = 0) → BRow w p L → k ≤ 12 →
 Calls Tryz.prog 29 #[.slice p n c, .int .i64 (d : Int), .pointer (some ⟨g, 0, none⟩)] w fun e w' => RPost f w g (readP f L k) e w'
def partsR (f : Nat) (L B : List UInt8) (k : Nat) : Nat × List PT × Nat := if (splitS L B).2 ≠ 0 then ((splitS L B).2, [], k) else readAll (readP f) (splitS L B).1 k []
def PartsPost (f : Nat) (w : World) (g : Nat) (r : Nat × List PT × Nat) (e : Ending) (w' : World) : Prop :=
 Ticks w g (r.2.2 : Int) w' ∧ ∃ q c, e = .returned (.tuple #[.slice q r.2.1.length c, .int .i64 (r.1 : Int)]) ∧ r.2.1.length ≤ c ∧ c ≤ maxLen ∧ (q = none → c = 0) ∧ KFar w' (fun b => w.heap.size ≤ b ∧ b < w'.heap.size) (f + 1) q r.2.1
theorem partsPost_no {f : Nat} {w w' : World} {g k : Nat} {e : Nat} (h : Ticks w g (k : Int) w') : PartsPost f w g (e, [], k) (.returned (.tuple #[.slice none 0 0, .int .i64 (e : Int)])) w' :=
 ⟨h, none, 0, rfl, Nat.le_refl _, by decide, fun _ => rfl, KFar.nil _ _ _ _⟩
theorem KFar.of_list {w : World} {Q : Nat → Prop} {f B n : Nat} {v : Value} {Z : List PZ} (ho : w.ownsRow B 25 7 v n (pzv Z)) (hn : n = Z.length) (hQ : ∀ b, B ≤ b → b < w.heap.size → Q b) (hh : ∀ z ∈ Z, PFar w Q f z.1 z.2.1.1 z.2.1.2 z.2.2.1 z.2.2.2) :
  ∃ q c, v = .slice q n c ∧ n ≤ c ∧ c ≤ maxLen ∧ (q = none → c = 0) ∧ KFar w Q (f + 1) q (Z.map (·.1)) := by
 subst hn
 obtain ⟨q, c, rfl, h1, h2, h3, hc⟩ := owned_cells ho
 refine ⟨q, c, rfl, h1, h2, fun h => (h3 h).2, fun hne => ?_⟩
 have hZ : Z ≠ [] := fun e => hne (by rw [e]; rfl)
 have hp : pzv Z ≠ [] := fun e => by
  have := congrArg List.length e
  rw [pzv_length, List.length_nil] at this
  exact hZ (List.length_eq_zero_iff.1 (by omega))
 obtain ⟨b, o, rfl, hcell⟩ := hc hp
 have hb := own_fresh ho (Nat.le_refl _) _ rfl
 refine ⟨b, o, rfl, hQ b hb.1 hb.2, fun i hi => ?_⟩
 rw [List.length_map] at hi
 have hz : Z[i]? = some Z[i] := List.getElem?_eq_getElem hi
 have e1 : (Z.map (·.1)).getD i pt0 = Z[i].1 := by simp [List.getD_eq_getElem?_getD, List.getElem?_map, hz]
 have hat : ∀ j u, (pzc Z[i])[j]? = some u → w.cell? ⟨b, o + i * 7 + j, none⟩ = some u := fun j u hj => by
  have := hcell (i * 7 + j) u (pz_at Z i Z[i] hz j u hj)
  rwa [← Nat.add_assoc] at this
 have hZi := hh _ (List.getElem_mem hi)
 rw [e1]
 exact ⟨Z[i].2.1.1, Z[i].2.1.2, Z[i].2.2.1, Z[i].2.2.2, ⟨hat 0 _ rfl, hat 1 _ rfl, hat 2 _ rfl, hat 3 _ rfl, hat 4 _ rfl, hat 5 _ rfl, hat 6 _ rfl⟩, hZi.1, hZi.2⟩
end Go.Proofs.YtlndhdimamnnlaaGreatDoor



namespace Go.Proofs.YtlndhdimamnnlaaGreatDoor
open Go.RowKit
theorem Ticks.same {w w' : World} {g : Nat} {k : Int} (hb : Below w.heap.size w w') (hc : CountAt w g k) : Ticks w g k w' := by
 refine ⟨hb.os, hb.tape, hb.output, by rw [set_size]; exact hb.size, fun i hi => ?_⟩
 by_cases e : i = g
 ·subst e
  rw [hb.block i hi, show w.heap[i]? = _ from hc, show (w.setCell ⟨i, 0, none⟩ (.int .i64 k)).heap[i]? = _ from hc.set k]
 ·rw [hb.block i hi, Below.heap_setCell _ _ _ _ e]
set_option maxHeartbeats 4000000 in
set_option maxRecDepth 100000 in
theorem parts_any (w0 : World) (f : Nat) (IH : ReadC w0 f) (p : Option Addr) (n c : Nat) (L : List UInt8) (en : n = L.length) (B : ByteArray) (d g k : Nat) (hd : f + d = 4) (w : World) (hb0 : Below w0.heap.size w0 w) (hg : w0.heap.size ≤ g) (hC : CountAt w g (k : Int)) (hn : n ≤ 40000) (hc : n ≤ c) (hr : BRow w p L) (hk : k ≤ 12) :
  Calls Tryz.prog 68 #[.slice p n c, .string B, .int .i64 (d : Int), .pointer (some ⟨g, 0, none⟩)] w fun e w' => PartsPost f w g (partsR f L B.data.toList k) e w' := by
 obtain ⟨i0, hi, hz0, hz1, hz2⟩ := info_parts info_part
 have CS : Hid (Calls Tryz.prog 6 #[.slice p n c, .string B] w fun e w' => SplitPost w (splitS L B.data.toList) e w') := split_any p n c L en B w hc hr
 have HLs : Hid (∀ x ∈ (splitS L B.data.toList).1, x.length ≤ 40000) := fun x hx => by have := splitS_len _ _ x hx; omega
 obtain ⟨RES, hRES⟩ : ∃ RES, partsR f L B.data.toList k = RES := ⟨_, rfl⟩
 have HRES : Hid (partsR f L B.data.toList k = RES) := hRES
 rw [hRES]
 unfold partsR at HRES
 clear hRES hr en
 generalize splitS L B.data.toList = S at *
 obtain ⟨PS, ES⟩ := S
 simp only at HRES HLs
 have HIH : Hid (ReadC w0 f) := IH
 have HB0 : Hid (Below w0.heap.size w0 w) := hb0
 have hgw := hC.lt
 have HC : Hid (CountAt w g (k : Int)) := hC
 clear IH hb0 hC
 go_enter Tryz.func68, Tryz.ntmps68
 go_wp2_with fail
 refine CS.out.mono ?_
 rintro e w1 ⟨hb1, v, rfl, h1, h2⟩
 clear CS
 by_cases hE : ES = 0
 ·obtain ⟨Y, hY, hown, hso⟩ := h2 hE
  obtain rfl : ES = 0 := hE
  rw [if_neg (by simp)] at HRES
  simp only at hY hown
  clear h1 h2
  obtain ⟨qv, cv, rfl, hv1, hv2, hv3, hvc⟩ := owned_cells hown
  obtain ⟨m, hm⟩ : ∃ m, PS.length = m := ⟨_, rfl⟩
  have HM : Hid (PS.length = m ∧ Y.length = m) := ⟨hm, by rw [← hm, ← hY, List.length_map]⟩
  rw [hm] at hv1 hown
  have hm4 : m ≤ 9223372036854775807 := by unfold maxLen at hv2; omega
  simp only [hm]
  have HY : Hid (Y.map (·.1) = PS) := hY
  have HC1 : Hid (CountAt w1 g (k : Int)) := HC.out.below hb1
  have HP : Hid (∀ (i : Nat) (wr : World) (x : Int), i < m → Ticks w1 g x wr → ∃ b o y, qv = some ⟨b, o, none⟩ ∧ Y[i]? = some y ∧ wr.cell? ⟨b, o + i, none⟩ = some (.slice y.2.1 y.1.length y.2.2) ∧ y.1.length ≤ y.2.2 ∧ y.2.2 ≤ maxLen ∧ (y.2.1 = none → y.1.length = 0 ∧ y.2.2 = 0) ∧ BRow wr y.2.1 y.1) := fun i wr x hi ht => by
   have hiY : i < Y.length := by rw [HM.out.2]; exact hi
   have ho2 := ht.owns hown hgw
   obtain ⟨q2, c2, e2, _, _, _, hc2⟩ := owned_cells ho2
   cases e2
   obtain ⟨b, o, rfl, hcell⟩ := hc2 (fun e => by have := congrArg List.length e; rw [syv, List.length_map, List.length_nil] at this; omega)
   have hy : Y[i]? = some Y[i] := List.getElem?_eq_getElem hiY
   obtain ⟨p9, c9, e9, r1, r2, r3, r4⟩ := owned_bytes (hso Y[i] (List.getElem_mem hiY))
   have hv9 : Y[i].2.1 = p9 ∧ Y[i].2.2 = c9 := by cases e9; exact ⟨rfl, rfl⟩
   refine ⟨b, o, Y[i], rfl, hy, ?_, ?_, ?_, ?_, ht.bytes HC1.out ?_⟩
   ·exact hcell i _ (by rw [syv, List.getElem?_map, hy]; rfl)
   ·rw [hv9.2]; exact r1
   ·rw [hv9.2]; exact r2
   ·rw [hv9.1, hv9.2]; exact r3
   ·rw [hv9.1]; exact r4
  have hs1 := hb1.size
  have hg1 : g < w1.heap.size := by omega
  have HB1 : Hid (Below w0.heap.size w0 w1) := HB0.out.trans (hb1.mono HB0.out.size)
  have HT1 : Hid (Ticks w g (k : Int) w1) := Ticks.same hb1 HC.out
  clear hown hso hvc hY hm hv3
  go_wp2_with fail
  go_loopw [12, 28] (fun ov iv wr => ∃ (i x : Nat) (q : Option Addr) (n6 c6 : Nat) (Z : List PZ), i ≤ m ∧ x ≤ 12 ∧ iv = .int .i64 i ∧ ov = .slice q n6 c6 ∧ Hid (n6 = Z.length) ∧ n6 ≤ x ∧ Hid (Ticks w1 g (x : Int) wr) ∧ Hid (wr.ownsRow w1.heap.size 25 7 (.slice q n6 c6) n6 (pzv Z)) ∧ Hid (∀ z ∈ Z, PFar wr (fun b => w1.heap.size ≤ b ∧ (Value.slice q n6 c6).ownBlock ≠ some b ∧ b < wr.heap.size) f z.1 z.2.1.1 z.2.1.2 z.2.2.1 z.2.2.2) ∧ Hid (readAll (readP f) (PS.drop i) x (Z.map (·.1)) = RES)) (fun _ iv _ => m - (intOf iv).toNat)
  case atStart => exact ⟨0, k, none, 0, 0, [], Nat.zero_le _, hk, rfl, rfl, rfl, Nat.zero_le _, Ticks.same (Below.refl _ _) HC1.out, World.ownsRow_nil _ _ _ _, (fun z hz => by cases hz), HRES⟩
  case round =>
   obtain ⟨i, x, q, n6, c6, Z, him, hx, rfl, rfl, HN6, hn6, HT, HO, HF, HR⟩ := hrel
   clear HRES
   by_cases hlt : i < m
   ·have hlz : (i : Int) < (m : Int) := by omega
    obtain ⟨b, o, y, rfl, hy, hcy, hy1, hy2, hy3, hy4⟩ := HP.out i wr x hlt HT.out
    have hyP : PS.drop i = y.1 :: PS.drop (i + 1) := by
     have hiP : i < PS.length := by rw [HM.out.1]; exact hlt
     rw [List.drop_eq_getElem_cons hiP]
     congr 1
     have h1 := congrArg (·[i]?) HY.out
     simp only [List.getElem?_map, hy, List.getElem?_eq_getElem hiP] at h1
     exact (Option.some.inj h1).symm
    have hy40 : y.1.length ≤ 40000 := HLs.out y.1 (by rw [← HY.out]; exact List.mem_map.2 ⟨y, List.mem_of_getElem? hy, rfl⟩)
    have HCr : Hid (CountAt wr g (x : Int)) := HT.out.count HC1.out
    have HBr : Hid (Below w0.heap.size w0 wr) := HT.out.base HB1.out hg
    have CR := HIH.out y.2.1 y.1.length y.2.2 y.1 d g x wr rfl hd HBr.out hg HCr.out hy40 hy1 hy2 hy3 hy4 hx
    rw [hyP, readAll] at HR
    have hfew := readP_few f y.1 x
    have hmore := readP_grows f y.1 x
    generalize hRP : readP f y.1 x = RP at *
    obtain ⟨er, pr, xr⟩ := RP
    simp only at HR hfew hmore
    obtain ⟨ny, hny⟩ : ∃ ny, y.1.length = ny := ⟨_, rfl⟩
    rw [hny] at hcy CR
    have CR' : Hid (Calls Tryz.prog 29 #[.slice y.2.1 ny y.2.2, .int .i64 (d : Int), .pointer (some ⟨g, 0, none⟩)] wr fun e w' => RPost f wr g (er, pr, xr) e w') := CR
    generalize y.2.1 = py at *
    generalize y.2.2 = cy at *
    clear CR hy hyP hy1 hy2 hy3 hy4 hy40 hny hRP HP
    have hsr : w1.heap.size ≤ wr.heap.size := HT.out.size
    go_wp2_with fail
    refine CR'.out.mono ?_
    rintro e w2 ⟨ht2, hok, hno⟩
    simp only at ht2 hok hno
    have HT2 : Hid (Ticks wr g (xr : Int) w2) := ht2
    have hs2 := ht2.size
    clear CR' ht2
    by_cases hEr : er = 0
    ·obtain ⟨pb, cb, pk, ck, rfl, hfar⟩ := hok hEr
     rw [if_pos hEr] at HR
     have hxr : xr ≤ 12 := hfew hEr
     obtain rfl : er = 0 := hEr
     have HO2 : Hid (w2.ownsRow w1.heap.size 25 7 (.slice q n6 c6) n6 (pzv Z)) := HT2.out.owns HO.out hg1
     have HF2 : Hid (∀ z ∈ Z ++ [(pr, (pb, cb), (pk, ck))], PFar w2 (fun b => w1.heap.size ≤ b ∧ (Value.slice q n6 c6).ownBlock ≠ some b ∧ b < w2.heap.size) f z.1 z.2.1.1 z.2.1.2 z.2.2.1 z.2.2.2) := fun z hz => by
      rcases List.mem_append.1 hz with h | h
      ·exact (HT2.out.far (fun b hb => by have := hb.1; omega) (HF.out z h)).kind fun b hb => ⟨hb.1, hb.2.1, by have := hb.2.2; omega⟩
      ·obtain rfl : z = (pr, (pb, cb), (pk, ck)) := by simpa using h
       exact hfar.kind fun b hb => ⟨Nat.le_trans hsr hb.1, (fun e => by have := (HO.out.lt b e).2; have := hb.1; omega), hb.2⟩
     have HZm : Hid ((Z ++ [(pr, (pb, cb), (pk, ck))]).map (·.1) = Z.map (·.1) ++ [pr]) := by unfold Hid; rw [List.map_append]; rfl
     have HZv : Hid (pzv (Z ++ [(pr, (pb, cb), (pk, ck))]) = pzv Z ++ [.string pr.ty, .string pr.cs, .string pr.id, .string pr.loc, .int .i64 pr.how, .slice pb pr.body.length cb, .slice pk pr.kids.length ck]) := by unfold Hid; rw [pzv_append]; simp [pzv, pzc]
     have HZl : Hid ((Z ++ [(pr, (pb, cb), (pk, ck))]).length = n6 + 1) := by unfold Hid; rw [List.length_append, ← HN6.out]; rfl
     have HTw : Hid (Ticks w1 g (xr : Int) w2) := HT.out.trans HT2.out HC1.out
     generalize Z ++ [(pr, (pb, cb), (pk, ck))] = Z2 at *
     have HR2 : Hid (readAll (readP f) (PS.drop (i + 1)) xr (Z2.map (·.1)) = RES) := by unfold Hid; rw [HZm.out]; exact HR.out
     obtain ⟨ty, cs, id, loc, how, body, kids⟩ := pr
     simp only at HZv
     obtain ⟨nb, hnb⟩ : ∃ nb, body.length = nb := ⟨_, rfl⟩
     obtain ⟨nk, hnk⟩ : ∃ nk, kids.length = nk := ⟨_, rfl⟩
     rw [hnb, hnk] at HZv
     simp only [hnb, hnk]
     obtain ⟨m0, m1, m2, m3, m4, m5, m6, _, _, _, _⟩ := made_seven (Below.refl _ (w2.alloc (.cells #[.string ty, .string cs, .string id, .string loc, .int .i64 how, .slice pb nb cb, .slice pk nk ck] 25))) w2.heap.size rfl
     clear hok hno hfar hfew HR HO HF hnb hnk HT HT2 HZm
     have HO3 := (HO2.out.alloc (.cells #[.string ty, .string cs, .string id, .string loc, .int .i64 how, .slice pb nb cb, .slice pk nk ck] 25))
     have hn13 : n6 + 1 ≤ 9223372036854775807 := by omega
     go_wp2_with (at_builtin; refine wpList_append_lies _ rfl (.tmp 42) (.tmp 44) 23 rfl w1.heap.size 25 i0 (.agg #[.string ⟨#[]⟩, .string ⟨#[]⟩, .string ⟨#[]⟩, .string ⟨#[]⟩, .int .i64 0, .slice none 0 0, .slice none 0 0]) 7 120 Tryz.underlying23 hi hz0 hz1 hz2 rfl (by decide) _ _ _ rfl (HO3.alloc _) ⟨w2.heap.size + 1, 0, none⟩ 1 1 [.string ty, .string cs, .string id, .string loc, .int .i64 how, .slice pb nb cb, .slice pk nk ck] rfl rfl ?c1 ?c2 (by decide) ?c3 ?c4 ?c5 (w2.heap.size + 2) ?c6 ?_)
     case c1 => exact cell_seven _ [_, _, _, _, _, _, _] _ _ (by simp)
     case c2 => intro u hu; simp at hu; rcases hu with rfl | rfl | rfl | rfl | rfl | rfl | rfl <;> rfl
     case c3 => unfold maxLen; omega
     case c4 => omega
     case c5 => simp; omega
     case c6 => simp
     intro g9 c9 w9 hown9 hg9 hlies hlt9
     have HT9 : Hid (Ticks w1 g (xr : Int) w9) := by
      have h1 : Ticks w1 g (xr : Int) ((w2.alloc (.cells #[.string ty, .string cs, .string id, .string loc, .int .i64 how, .slice pb nb cb, .slice pk nk ck] 25)).alloc (.cells #[.string ty, .string cs, .string id, .string loc, .int .i64 how, .slice pb nb cb, .slice pk nk ck] 25)) := HTw.out.then (((Below.refl _ _).alloc (Nat.le_refl _) _).alloc (by simp) _)
      have h2 : Below w1.heap.size (w1.setCell ⟨g, 0, none⟩ (.int .i64 (xr : Int))) _ := h1
      exact h2.grown hg9 (by have := HTw.out.size; simp; omega) (fun j hj => (HO2.out.lt j hj).1)
     have hs9 : w2.heap.size + 2 ≤ w9.heap.size := by have := hg9.size; simp at this; omega
     have HF9 : Hid (∀ z ∈ Z2, PFar w9 (fun b => w1.heap.size ≤ b ∧ (Value.slice (some ⟨g9, 0, none⟩) (n6 + 1) c9).ownBlock ≠ some b ∧ b < w9.heap.size) f z.1 z.2.1.1 z.2.1.2 z.2.2.1 z.2.2.2) := fun z hz => by
      have hmv := PFar.move (w' := w9) (fun b hb hlt => by
       rw [hg9.block b (by simp; omega) (fun e => hb.2.1 e.symm)]
       rw [Below.heap_alloc _ _ _ (by simp; omega), Below.heap_alloc _ _ _ hlt]) (HF2.out z hz)
      refine hmv.kind fun b hb => ⟨hb.1, fun e => ?_, by have := hb.2.2; omega⟩
      have e' : g9 = b := by simpa [Value.ownBlock] using e
      rcases hlies with h | h
      ·exact hb.2.1 (by rw [h, e'])
      ·have := hb.2.2; omega
     have R9 : Hid (w9.ownsRow w1.heap.size 25 7 (.slice (some ⟨g9, 0, none⟩) (n6 + 1) c9) (n6 + 1) (pzv Z2)) := by unfold Hid; rw [HZv.out]; exact hown9
     clear hown9 hg9 HO3 m0 m1 m2 m3 m4 m5 m6
     go_wp2_with fail
     go_roundw
     case rel =>
      (repeat apply Exists.intro)
      refine ⟨?_, rfl⟩
      exact ⟨i + 1, xr, some ⟨g9, 0, none⟩, n6 + 1, c9, Z2, by omega, hxr, by go_num, rfl, HZl.out.symm, by omega, HT9, R9, HF9, HR2⟩
     case measure => simp [intOf]; omega
    ·obtain ⟨s0, s1, s2, s3, h, a1, n1, c1, a2, n2, c2, rfl⟩ := hno hEr
     rw [if_neg hEr] at HR
     have hErb : ((er : Int) != 0) = true := by simp; exact hEr
     have hErz : ¬ ((er : Int) = 0) := by omega
     have HT9 : Hid (Ticks w g (xr : Int) (w2.alloc (.cells #[.string s0, .string s1, .string s2, .string s3, .int .i64 h, .slice a1 n1 c1, .slice a2 n2 c2] 25))) :=
      ((HT1.out.trans HT.out HC.out).trans HT2.out HC.out).then ((Below.refl _ _).alloc (Nat.le_refl _) _)
     clear hok hno hfew hEr HO HF
     go_wp2_with fail
     go_ret2
     show PartsPost _ _ _ _ _ _
     rw [← HR.out]
     exact partsPost_no HT9.out
   ·have hlz : ¬ ((i : Int) < (m : Int)) := by omega
    have hRe : RES = (0, Z.map (·.1), x) := by
     rw [← HR.out, List.drop_of_length_le (by rw [HM.out.1]; omega), readAll]
    have HRe : Hid (RES = (0, Z.map (·.1), x)) := hRe
    have HTx : Hid (Ticks w g (x : Int) wr) := HT1.out.trans HT.out HC.out
    obtain ⟨q9, c9, hv9, h91, h92, h93, hk9⟩ := KFar.of_list (Q := fun b => w1.heap.size ≤ b ∧ b < wr.heap.size) HO.out HN6.out (fun b h1 h2 => ⟨h1, h2⟩) (fun z hz => (HF.out z hz).kind fun b h => ⟨h.1, h.2.2⟩)
    have hq9 : q = q9 ∧ c6 = c9 := by cases hv9; exact ⟨rfl, rfl⟩
    obtain ⟨rfl, rfl⟩ := hq9
    have HK9 : Hid (KFar wr (fun b => w1.heap.size ≤ b ∧ b < wr.heap.size) (f + 1) q (Z.map (·.1))) := hk9
    clear hRe HR HO HF hv9 hk9
    go_wp2_with fail
    go_ret2
    show PartsPost _ _ _ _ _ _
    rw [HRe.out]
    refine ⟨HTx.out, q, c6, ?_, ?_, h92, h93, KFar.kind (fun b h => ⟨Nat.le_trans hs1 h.1, h.2⟩) _ _ _ HK9.out⟩
    ·show _ = Ending.returned (.tuple #[.slice q (Z.map (·.1)).length c6, .int .i64 0])
     rw [List.length_map, ← HN6.out]
     rfl
    ·show (Z.map (·.1)).length ≤ c6
     rw [List.length_map, ← HN6.out]
     exact h91
 ·have hEb : ((ES : Int) != 0) = true := by simp; exact hE
  have hEz : ¬ ((ES : Int) = 0) := by omega
  obtain rfl : v = .slice none 0 0 := h1 hE
  rw [if_pos hE] at HRES
  have HT1 : Hid (Ticks w g (k : Int) w1) := Ticks.same hb1 HC.out
  clear h1 h2
  go_wp2_with fail
  go_ret2
  show PartsPost _ _ _ _ _ _
  rw [← HRES.out]
  exact partsPost_no HT1.out
end Go.Proofs.YtlndhdimamnnlaaGreatDoor



namespace Go.Proofs.YtlndhdimamnnlaaGreatDoor
open Go.RowKit
set_option maxHeartbeats 1000000 in
theorem index_some (b o n c : Nat) (L : List UInt8) (en : n = L.length) (d : UInt8) (dd : Int) (ed : dd = (d.toNat : Int)) (w : World) (h0 : 1 ≤ n) (hn : n ≤ 1000000000)
  (hc : ∀ i, i < n → w.cell? ⟨b, o + i, none⟩ = some (.int .u8 ((L.getD i 0).toNat : Int))) :
  Calls Tryz.prog 78 #[.slice (some ⟨b, o, none⟩) n c, .int .u8 dd] w fun e w' => e = .returned (.int .i64 (whereB d L)) ∧ w' = w := by
 subst ed
 have HL : Hid (n = L.length) := en
 clear en
 go_enter Tryz.func78, Tryz.ntmps78
 go_wp2
 go_loop [8] (fun iv => ∃ k : Nat, k ≤ n ∧ iv = .int .i64 k ∧ Hid (whereB d L = if whereB d (L.drop k) = -1 then -1 else whereB d (L.drop k) + k)) (fun iv => n - (intOf iv).toNat)
 case atStart => exact ⟨0, Nat.zero_le _, rfl, by unfold Hid; rw [List.drop_zero]; split <;> omega⟩
 case round =>
  obtain ⟨k, hk, rfl, HK⟩ := hrel
  by_cases hlt : k < n
  ·have h1 := hc k hlt
   clear hc
   have hkl : k < L.length := by rw [← HL.out]; exact hlt
   by_cases he : L.getD k 0 = d
   ·have HN : Hid (whereB d L = (k : Int)) := by
     have e : whereB d (L.drop k) = 0 := by
      rw [List.drop_eq_getElem_cons hkl, whereB, cutB, if_pos (by simpa [List.getD_eq_getElem?_getD, List.getElem?_eq_getElem hkl] using he)]; rfl
     unfold Hid
     rw [HK.out, e]
     simp
    rw [he] at h1
    have hbe : ((d.toNat : Int) == (d.toNat : Int)) = true := by simp
    clear HK
    go_wp2
    go_ret
    exact ⟨by rw [HN.out]; rfl, rfl⟩
   ·have HN : Hid (whereB d L = if whereB d (L.drop (k + 1)) = -1 then -1 else whereB d (L.drop (k + 1)) + ((k + 1 : Nat) : Int)) := by
     have hne : ¬ L[k] = d := by simpa [List.getD_eq_getElem?_getD, List.getElem?_eq_getElem hkl] using he
     unfold Hid
     rw [HK.out, List.drop_eq_getElem_cons hkl]
     cases hcu : cutB d (L.drop (k + 1)) with
     | none => simp [whereB, cutB, hne, hcu]
     | some x =>
      have a1 : ¬ ((x.1.length : Int) = -1) := by omega
      have a2 : ¬ (((x.1.length + 1 : Nat) : Int) = -1) := by omega
      simp only [whereB, cutB, hne, hcu, if_false, Option.map_some, List.length_cons]
      rw [if_neg a2, if_neg a1]
      omega
    have hbe : ((d.toNat : Int) == ((L.getD k 0).toNat : Int)) = false := by
     rw [beq_eq_false_iff_ne]
     intro e
     apply he
     have : d.toNat = (L.getD k 0).toNat := by omega
     exact (UInt8.toNat_inj.1 this).symm
    clear HK he
    generalize L.getD k 0 = x at *
    go_wp2
    go_round
    case rel => exact ⟨k + 1, by omega, by go_num, HN⟩
    case measure => simp [intOf]; omega
  ·obtain rfl : k = n := by omega
   have HN : Hid (whereB d L = -1) := by
    unfold Hid
    rw [HK.out, HL.out, List.drop_length]
    rfl
   clear hc
   go_wp2
   go_ret
   exact ⟨by rw [HN.out]; rfl, rfl⟩
theorem index_nil (p : Option Addr) (c : Nat) (d : UInt8) (w : World) :
  Calls Tryz.prog 78 #[.slice p 0 c, .int .u8 (d.toNat : Int)] w fun e w' => e = .returned (.int .i64 (-1)) ∧ w' = w := by
 go_enter Tryz.func78, Tryz.ntmps78
 go_wp2
 refine wp_loop_rounds 1 ?_
 rw [rounds_succ]
 go_wp2
 go_ret
 exact ⟨rfl, rfl⟩
end Go.Proofs.YtlndhdimamnnlaaGreatDoor

