/- slices.Concat of two lists of parts answers both, one behind the other, in new memory. Nothing that was there is changed. Conditions: the cells lie there. -/
import Derived.Test.YtpgnkhaanoalhaaGreatDoorXmimeborders38
import Derived.Laws.AppendOwnNone
import Derived.Lib.AppendZeros
import Derived.Test.YtpgnkhaanoalhaaGreatDoorXmimeborders39
import Derived.Test.YtpgnkhaanoalhaaGreatDoorXmimeborders28
import Derived.Test.YtpgnkhaanoalhaaGreatDoorXmimeborders25
import Derived.Test.YtpgnkhaanoalhaaGreatDoorXmimeborders40
namespace Go.Proofs.YtpgnkhaanoalhaaGreatDoor
open Go.RowKit

theorem infoP : (Tryz.prog.info? 25).map (fun i => (i.zero, i.size, i.bytes)) = some (some (.agg #[.string ⟨#[]⟩, .string ⟨#[]⟩, .string ⟨#[]⟩, .string ⟨#[]⟩, .int .i64 0, .slice none 0 0, .slice none 0 0]), 7, 120) := by kernel_rfl

theorem append_rowP {w : World} {ops : Array Oper} {rest : List Oper} {o : Oper} {a : Act} {Q : Exit → Act → World → Prop} (hgd : o.guard = none) (s x : Operand)
    (ho : o.op = .call { callee := .builtin .append, args := #[s, x], argTypes := #[23, 23] })
    (base : Nat) (v : Value) (n : Nat) (xs : List Value) (hs : a.eval s = v) (hown : w.ownsRow base 25 7 v n xs)
    (p : Option Addr) (l : List Value) (m c : Nat) (em : l.length = m * 7) (hx : a.eval x = .slice p m c) (hr : Cells w p l) (h1c : ∀ u ∈ l, u.oneCell' = true) (hp : p = none → m = 0 ∧ c = 0)
    (h63 : n + m ≤ 100000000) (hbase : base ≤ w.heap.size)
    (h : ∀ v' w', w'.ownsRow base 25 7 v' (n + m) (xs ++ l) → w.grownBy w' v.ownBlock → wpList Tryz.prog ops Q rest (a.put o.dst v') w') : wpList Tryz.prog ops Q (o :: rest) a w := by
  obtain ⟨i0, hi, hz0, hz1, hz2⟩ := info_parts infoP
  cases p with
  | none =>
    obtain ⟨rfl, rfl⟩ := hp rfl
    have hl : l = [] := List.length_eq_zero_iff.1 (em.trans (Nat.zero_mul _))
    subst hl
    refine wpList_append_own_none hgd s x 23 ho base 25 i0 7 Tryz.underlying23 hi v n xs hs hown hx ?_
    refine h v w (by simpa using hown) (World.grownBy.refl _ _)
  | some ad =>
    refine wpList_append_own _ hgd s x 23 ho base 25 i0 (.agg #[.string ⟨#[]⟩, .string ⟨#[]⟩, .string ⟨#[]⟩, .string ⟨#[]⟩, .int .i64 0, .slice none 0 0, .slice none 0 0]) 7 120 Tryz.underlying23 hi hz0 hz1 hz2 rfl (by decide) v n xs hs hown ad m c l hx em ?_ h1c (by unfold maxLen; omega) (by omega) hbase (fun v' w' h1 h2 _ => h v' w' h1 h2)
    intro j u hj
    obtain ⟨b, o', e, hc⟩ := hr (fun e => by rw [e] at hj; simp at hj)
    obtain rfl := Option.some.inj e
    rw [Addr.add_lit]
    exact hc j u hj

set_option maxHeartbeats 1000000 in
set_option maxRecDepth 100000 in
theorem growNilP (N : Nat) (NN : Int) (eN : NN = (N : Int)) (hN : N ≤ 100000) (w : World) :
    Calls Tryz.prog 130 #[.slice none 0 0, .int .i64 NN] w fun e w' => Below w.heap.size w w' ∧ ∃ p c, e = .returned (.slice p 0 c) ∧ w'.ownsRow w.heap.size 25 7 (.slice p 0 c) 0 [] := by
  subst eN
  obtain ⟨i0, hi, hz0, hz1, hz2⟩ := info_parts infoP
  rcases Nat.eq_zero_or_pos N with h0 | h0
  · subst h0
    go_enter Tryz.func130, Tryz.ntmps130
    go_wp2
    go_ret
    exact ⟨Below.refl _ _, none, 0, rfl, World.ownsRow_nil _ _ _ _⟩
  · have h0' : (0 : Int) < (N : Int) := by omega
    have hr := fun ty => Lib.run_append_nil_zeros (P := Tryz.prog) w 23 3 ty 25 i0 (.agg #[.string ⟨#[]⟩, .string ⟨#[]⟩, .string ⟨#[]⟩, .string ⟨#[]⟩, .int .i64 0, .slice none 0 0, .slice none 0 0]) .i64 .i64 Tryz.underlying23 Tryz.underlying3 hi hz0 N h0 (by rw [hz1]; decide) (by omega) (by rw [hz2]; omega)
    obtain ⟨G, hG⟩ : ∃ G, grownCap w N 0 25 = G := ⟨_, rfl⟩
    have hGe : N ≤ G := by rw [← hG]; exact grownCap_ge w _ _ _
    have hGm : G ≤ maxLen := by rw [← hG]; exact grownCap_le_maxLen w N 0 25 (by unfold maxLen; omega)
    rw [hG] at hr
    have hGi : (N : Int) ≤ (G : Int) := by omega
    clear hG
    go_enter Tryz.func130, Tryz.ntmps130
    go_wp2_with (at_builtin; refine Lib.wpList_append_run _ rfl (.tmp 20) (.tmp 21) 23 3 rfl _ _ rfl rfl _ _ (hr _) ?_)
    clear hr
    go_wp2
    go_ret
    refine ⟨((Below.refl _ _).alloc (Nat.le_refl _) _).drew, some ⟨w.heap.size, 0, none⟩, G, rfl, ?_⟩
    refine ⟨rfl, .inr ⟨w.heap.size, G, Builtin.zeroCells #[.string ⟨#[]⟩, .string ⟨#[]⟩, .string ⟨#[]⟩, .string ⟨#[]⟩, .int .i64 0, .slice none 0 0, .slice none 0 0] N ++ Builtin.zeroCells #[.string ⟨#[]⟩, .string ⟨#[]⟩, .string ⟨#[]⟩, .string ⟨#[]⟩, .int .i64 0, .slice none 0 0, .slice none 0 0] (G - N), rfl, Nat.le_refl _, ?_, Nat.zero_le _, hGm, ?_, ?_⟩⟩
    · show (w.heap.push _)[w.heap.size]? = _
      simp
    · rw [Array.size_append, size_zeroCells, size_zeroCells]
      show N * 7 + (G - N) * 7 = G * 7
      omega
    · simp

set_option maxHeartbeats 2000000 in
set_option maxRecDepth 100000 in
theorem concatP (g : Nat) (p q : Option Addr) (n m c d : Nat) (L M : List Value) (en : L.length = n * 7) (em : M.length = m * 7) (w : World) (h1 : w.cell? ⟨g, 0, none⟩ = some (.slice p n c)) (h2 : w.cell? ⟨g, 1, none⟩ = some (.slice q m d))
    (hL : Cells w p L) (hM : Cells w q M) (oL : ∀ u ∈ L, u.oneCell' = true) (oM : ∀ u ∈ M, u.oneCell' = true) (hp : p = none → n = 0 ∧ c = 0) (hq : q = none → m = 0 ∧ d = 0) (hn : n + m ≤ 50000) :
    Calls Tryz.prog 76 #[.slice (some ⟨g, 0, none⟩) 2 2] w fun e w' => Below w.heap.size w w' ∧ ∃ p' c', e = .returned (.slice p' (n + m) c') ∧ w'.ownsRow w.heap.size 25 7 (.slice p' (n + m) c') (n + m) (L ++ M) := by
  have hg : g < w.heap.size := World.block_lt_of_cell? w _ h1
  have HE : Hid (L.length = n * 7 ∧ M.length = m * 7) := ⟨en, em⟩
  have HL : Hid (Cells w p L) := hL
  have HM : Hid (Cells w q M) := hM
  have HP : Hid (p = none → n = 0 ∧ c = 0) := hp
  have HQ : Hid (q = none → m = 0 ∧ d = 0) := hq
  have HO : Hid ((∀ u ∈ L, u.oneCell' = true) ∧ (∀ u ∈ M, u.oneCell' = true)) := ⟨oL, oM⟩
  clear hL hM hp hq en em oL oM
  go_enter Tryz.func76, Tryz.ntmps76
  go_wp2
  refine wp_loop_rounds 3 ?_
  rw [rounds_succ]
  go_wp2
  rw [rounds_succ]
  go_wp2
  rw [rounds_succ]
  go_wp2_with fail
  refine (growNilP (n + m) _ (by omega) (by omega) _).mono ?_
  rintro e w1 ⟨hb1, p1, c1, rfl, hown1⟩
  have h1' : w1.cell? ⟨g, 0, none⟩ = some (.slice p n c) := (hb1.cell (p := ⟨g, 0, none⟩) hg).trans h1
  have h2' : w1.cell? ⟨g, 1, none⟩ = some (.slice q m d) := (hb1.cell (p := ⟨g, 1, none⟩) hg).trans h2
  have hL1 : Hid (Cells w1 p L) := HL.out.below hb1
  have hsz1 := hb1.size
  go_wp2
  refine wp_loop_rounds 3 ?_
  rw [rounds_succ]
  go_wp2_with (at_builtin; refine append_rowP rfl (.tmp 31) (.tmp 32) rfl w.heap.size _ _ _ rfl hown1 p L n c HE.out.1 rfl hL1.out HO.out.1 HP.out (by omega) hsz1 ?_)
  intro v2 w2 hown2 hg2
  have hb2 : Below w.heap.size w w2 := hb1.grown hg2 hsz1 fun j hj => (hown1.lt j hj).1
  have h2'' : w2.cell? ⟨g, 1, none⟩ = some (.slice q m d) := (hb2.cell (p := ⟨g, 1, none⟩) hg).trans h2
  have hM2 : Hid (Cells w2 q M) := HM.out.below hb2
  have hsz2 := hb2.size
  clear hg2 hown1 h1' h2' hL1 hb1
  go_wp2
  rw [rounds_succ]
  go_wp2_with (at_builtin; refine append_rowP rfl (.tmp 31) (.tmp 32) rfl w.heap.size _ _ _ rfl hown2 q M m d HE.out.2 rfl hM2.out HO.out.2 HQ.out (by omega) hsz2 ?_)
  intro v3 w3 hown3 hg3
  have hb3 : Below w.heap.size w w3 := hb2.grown hg3 hsz2 fun j hj => (hown2.lt j hj).1
  have R : Hid (w3.ownsRow w.heap.size 25 7 v3 (n + m) (L ++ M)) := by
    unfold Hid
    simpa using hown3
  obtain ⟨p3, c3, rfl⟩ := owned_slice R.out
  clear hg3 hown2 hown3 h2'' hM2 hb2
  go_wp2
  rw [rounds_succ]
  go_wp2
  go_ret
  exact ⟨hb3, p3, c3, rfl, R.out⟩
end Go.Proofs.YtpgnkhaanoalhaaGreatDoor

/- mime.readParts, over what mime.read answers of each piece: as the plain function says; nothing that was there is changed but the count. Conditions: the bytes and the count lie there. -/
namespace Go.Proofs.YtpgnkhaanoalhaaGreatDoor
open Go.RowKit

theorem splitGo_len (border : List UInt8) (N : Nat) : ∀ (f : Nat) (rest : List UInt8) (cur : Option (List UInt8)) (out : List (List UInt8)) (l : List (List UInt8)), splitGo border f rest cur out = some l → (∀ c, cur = some c → c.length + rest.length ≤ N) → rest.length ≤ N → (∀ x ∈ out, x.length ≤ N) → ∀ x ∈ l, x.length ≤ N := by
  have hcl : ∀ (rest : List UInt8) (cur : Option (List UInt8)) (out : List (List UInt8)), (∀ c, cur = some c → c.length + rest.length ≤ N) → (∀ x ∈ out, x.length ≤ N) → ∀ x ∈ closed cur out, x.length ≤ N := by
    intro rest cur out hc ho x hx
    cases cur with
    | none => exact ho x hx
    | some c =>
      rcases List.mem_append.1 hx with h | h
      · exact ho x h
      · obtain rfl : x = stripE c := by simpa using h
        have h1 := noEnd_le 13 (noEnd 10 c)
        have h2 := noEnd_le 10 c
        have h3 := hc c rfl
        unfold stripE
        omega
  intro f
  induction f with
  | zero => intro rest cur out l h; rw [splitGo] at h; cases h
  | succ f ih =>
    intro rest cur out l h hc hr ho
    have hdl : (rest.drop (lineN rest)).length ≤ N := by rw [List.length_drop]; omega
    rw [splitGo] at h
    by_cases h1 : rest = []
    · rw [if_pos h1] at h; cases h
    rw [if_neg h1] at h
    by_cases h2 : bareL (rest.take (lineN rest)) = dd ++ border ++ dd
    · rw [if_pos h2] at h
      obtain rfl := Option.some.inj h
      exact hcl rest cur out hc ho
    rw [if_neg h2] at h
    by_cases h3 : bareL (rest.take (lineN rest)) = dd ++ border
    · rw [if_pos h3] at h
      exact ih _ _ _ l h (fun c hcc => by cases hcc; simpa using hdl) hdl (hcl rest cur out hc ho)
    · rw [if_neg h3] at h
      refine ih _ _ _ l h (fun c hcc => ?_) hdl ho
      cases cur with
      | none => cases hcc
      | some c0 =>
        obtain rfl := Option.some.inj hcc
        have := hc c0 rfl
        have hl := lineN_le rest
        rw [List.length_append, List.length_take, List.length_drop]
        omega
theorem splitS_len (b border : List UInt8) : ∀ x ∈ (splitS b border).1, x.length ≤ b.length := by
  unfold splitS
  split
  · intro x hx; cases hx
  · split
    · intro x hx; cases hx
    · cases h : splitGo border (b.length + 1) b none [] with
      | none => intro x hx; cases hx
      | some l => exact splitGo_len border b.length _ _ _ _ l h (fun c hc => by cases hc) (Nat.le_refl _) (fun x hx => by cases hx)

def RPost (f : Nat) (w : World) (g : Nat) (r : Nat × PT × Nat) (e : Ending) (w' : World) : Prop :=
  Ticks w g (r.2.2 : Int) w' ∧ (r.1 = 0 → ∃ pb cb pk ck, e = .returned (.tuple #[.agg #[.string r.2.1.ty, .string r.2.1.cs, .string r.2.1.id, .string r.2.1.loc, .int .i64 r.2.1.how, .slice pb r.2.1.body.length cb, .slice pk r.2.1.kids.length ck], .int .i64 0]) ∧ PFar w' (fun b => w.heap.size ≤ b ∧ b < w'.heap.size) f r.2.1 pb cb pk ck) ∧
  (r.1 ≠ 0 → ∃ s0 s1 s2 s3 h a1 n1 c1 a2 n2 c2, e = .returned (.tuple #[.agg #[.string s0, .string s1, .string s2, .string s3, .int .i64 h, .slice a1 n1 c1, .slice a2 n2 c2], .int .i64 (r.1 : Int)]))
/-- What mime.read answers, to the depth f. -/
def ReadC (w0 : World) (f : Nat) : Prop := ∀ (p : Option Addr) (n c : Nat) (L : List UInt8) (d g k : Nat) (w : World), n = L.length → f + d = 4 → Below w0.heap.size w0 w → w0.heap.size ≤ g → CountAt w g (k : Int) → n ≤ 40000 → n ≤ c → c ≤ maxLen → (p = none → n = 0 ∧ c = 0) → BRow w p L → k ≤ 12 →
  Calls Tryz.prog 34 #[.slice p n c, .int .i64 (d : Int), .pointer (some ⟨g, 0, none⟩)] w fun e w' => RPost f w g (readP f L k) e w'

def partsR (f : Nat) (L B : List UInt8) (k : Nat) : Nat × List PT × Nat := if (splitS L B).2 ≠ 0 then ((splitS L B).2, [], k) else readAll (readP f) (splitS L B).1 k []
def PartsPost (f : Nat) (w : World) (g : Nat) (r : Nat × List PT × Nat) (e : Ending) (w' : World) : Prop :=
  Ticks w g (r.2.2 : Int) w' ∧ ∃ q c, e = .returned (.tuple #[.slice q r.2.1.length c, .int .i64 (r.1 : Int)]) ∧ r.2.1.length ≤ c ∧ c ≤ maxLen ∧ (q = none → c = 0) ∧ KFar w' (fun b => w.heap.size ≤ b ∧ b < w'.heap.size) (f + 1) q r.2.1
theorem partsPost_no {f : Nat} {w w' : World} {g k : Nat} {e : Nat} (h : Ticks w g (k : Int) w') : PartsPost f w g (e, [], k) (.returned (.tuple #[.slice none 0 0, .int .i64 (e : Int)])) w' :=
  ⟨h, none, 0, rfl, Nat.le_refl _, by decide, fun _ => rfl, KFar.nil _ _ _ _⟩
theorem KFar.of_list {w : World} {Q : Nat → Prop} {f B n : Nat} {v : Value} {Z : List PZ} (ho : w.ownsRow B 25 7 v n (pzv Z)) (hn : n = Z.length) (hQ : ∀ b, B ≤ b → b < w.heap.size → Q b) (hh : ∀ z ∈ Z, PFar w Q f z.1 z.2.1.1 z.2.1.2 z.2.2.1 z.2.2.2) :
    ∃ q c, v = .slice q n c ∧ n ≤ c ∧ c ≤ maxLen ∧ (q = none → c = 0) ∧ KFar w Q (f + 1) q (Z.map (·.1)) := by
  subst hn
  obtain ⟨q, c, rfl, h1, h2, h3, hc⟩ := owned_cells ho
  refine ⟨q, c, rfl, h1, h2, fun h => (h3 h).2, fun hne => ?_⟩
  have hZ : Z ≠ [] := fun e => hne (by rw [e]; rfl)
  have hp : pzv Z ≠ [] := fun e => by
    have := congrArg List.length e
    rw [pzv_length, List.length_nil] at this
    exact hZ (List.length_eq_zero_iff.1 (by omega))
  obtain ⟨b, o, rfl, hcell⟩ := hc hp
  have hb := own_fresh ho (Nat.le_refl _) _ rfl
  refine ⟨b, o, rfl, hQ b hb.1 hb.2, fun i hi => ?_⟩
  rw [List.length_map] at hi
  have hz : Z[i]? = some Z[i] := List.getElem?_eq_getElem hi
  have e1 : (Z.map (·.1)).getD i pt0 = Z[i].1 := by simp [List.getD_eq_getElem?_getD, List.getElem?_map, hz]
  have hat : ∀ j u, (pzc Z[i])[j]? = some u → w.cell? ⟨b, o + i * 7 + j, none⟩ = some u := fun j u hj => by
    have := hcell (i * 7 + j) u (pz_at Z i Z[i] hz j u hj)
    rwa [← Nat.add_assoc] at this
  have hZi := hh _ (List.getElem_mem hi)
  rw [e1]
  exact ⟨Z[i].2.1.1, Z[i].2.1.2, Z[i].2.2.1, Z[i].2.2.2, ⟨hat 0 _ rfl, hat 1 _ rfl, hat 2 _ rfl, hat 3 _ rfl, hat 4 _ rfl, hat 5 _ rfl, hat 6 _ rfl⟩, hZi.1, hZi.2⟩
end Go.Proofs.YtpgnkhaanoalhaaGreatDoor
