/- slices.DeleteFunc at all lists; slices.Clone of fields; append of fields. What the caller does not own is as it was. -/
import Derived.Test.YtnlnjjcfpbmpmaaDoorHDel2
import Derived.Lib.SliceRun
namespace Go.Proofs.YtnlnjjcfpbmpmaaDoor
open Go.RowKit

/-- slices.DeleteFunc. -/
theorem delete_any (B g : Nat) (NM : ByteArray) (hN : AsciiB NM) (lv : Value) (l : List FV) (w : World) (hn : l.length ≤ 100) (ha : ∀ f ∈ l, AsciiB f.1) (hg : w.cell? ⟨g, 0, none⟩ = some (.string NM)) (hgB : g < B) (hB : B ≤ w.heap.size)
    (hown : w.ownsRow B 51 2 lv l.length (fv l)) :
    Calls Tryd.prog 45 #[lv, .func (Fn.func 47) #[] #[.pointer (some ⟨g, 0, none⟩)]] w fun e w' => Below B w w' ∧ ∃ v', e = .returned v' ∧ w'.ownsRow B 51 2 v' (kept NM l).length (fv (kept NM l)) := by
  obtain ⟨p0, c0, hv0, hcn, hcm, hp0, hob, hgg, hfr⟩ := owned_fields hown
  by_cases hex : ∃ f ∈ l, sameN NM f.1 = true
  · have hlt : l.findIdx (fun f => sameN NM f.1) < l.length := List.findIdx_lt_length_of_exists hex
    have hne : l ≠ [] := fun e => by rw [e] at hlt; simp at hlt
    obtain ⟨gs, rfl, _⟩ := hgg hne
    subst hv0
    refine delete_some B g NM hN (l.findIdx fun f => sameN NM f.1) gs l.length c0 l rfl w hn ha hg hgB hB hlt (fun j hj => ?_) ?_ hown
    · have := List.not_of_lt_findIdx hj
      simpa [List.getD_eq_getElem?_getD, List.getElem?_eq_getElem (Nat.lt_trans hj hlt)] using this
    · have := List.findIdx_getElem (w := hlt)
      simpa [List.getD_eq_getElem?_getD, List.getElem?_eq_getElem hlt] using this
  · have hall : ∀ f ∈ l, sameN NM f.1 = false := fun f hf => by
      cases h : sameN NM f.1 with
      | false => rfl
      | true => exact absurd ⟨f, hf, h⟩ hex
    have HR : Hid (w.ownsRow B 51 2 (.slice p0 l.length c0) (kept NM l).length (fv (kept NM l))) := by
      unfold Hid; rw [kept_all NM l hall, ← hv0]; exact hown
    have CI : Hid (Calls Tryd.prog 86 #[.slice p0 l.length c0, .func (Fn.func 47) #[] #[.pointer (some ⟨g, 0, none⟩)]] w fun e w' => e = .returned (.int .i64 (-1)) ∧ Below w.heap.size w w') := by
      by_cases h0 : l = []
      · subst h0
        refine (find_nil g p0 c0 w).mono ?_
        rintro e w' ⟨rfl, rfl⟩
        exact ⟨rfl, Below.refl _ _⟩
      · obtain ⟨b, o, rfl, hc⟩ := hfr h0
        exact find_some g NM hN (-1) b o l.length c0 l rfl w (List.length_pos_iff.2 h0) hn ha hg (fun j hj _ => hall _ (fv_mem l j hj)) (fun j hj h => by omega) (by omega) (by omega) hc
    subst hv0
    generalize l.length = n at *
    clear hown hfr hgg hob hp0 hall hex
    go_enter Tryd.func45, Tryd.ntmps45
    go_wp2_with fail
    refine CI.out.mono ?_
    rintro e w1 ⟨rfl, hb1⟩
    clear CI
    go_wp2
    go_ret
    exact ⟨hb1.mono hB, _, rfl, ownsRow_below HR.out hb1⟩

theorem fv_cell {w : World} {b o : Nat} {l : List FV} (hc : ∀ i, i < l.length → w.cell? ⟨b, o + i * 2, none⟩ = some (.string (l.getD i default).1) ∧ w.cell? ⟨b, o + i * 2 + 1, none⟩ = some (.string (l.getD i default).2)) (j : Nat) (u : Value) (hj : (fv l)[j]? = some u) : w.cell? ⟨b, o + j, none⟩ = some u := by
  have hjl : j < l.length * 2 := by rw [← fv_length]; exact (List.getElem?_eq_some_iff.1 hj).1
  have h1 := hc (j / 2) (by omega)
  have h2 := fv_get l (j / 2) (by omega)
  rcases Nat.mod_two_eq_zero_or_one j with e | e
  · have ej : j = j / 2 * 2 := by omega
    rw [ej, h2.1] at hj
    rw [ej, h1.1, hj]
  · have ej : j = j / 2 * 2 + 1 := by omega
    rw [ej, h2.2] at hj
    rw [ej, ← Nat.add_assoc, h1.2, hj]
theorem fv_one (l : List FV) : ∀ u ∈ fv l, u.oneCell' = true := by
  intro u hu
  unfold fv at hu
  rw [List.mem_flatMap] at hu
  obtain ⟨f, _, hf⟩ := hu
  simp at hf
  rcases hf with rfl | rfl <;> rfl

/-- 'append' of fields that lie somewhere, to a row that the call owns. -/
theorem wpList_append_frow {w : World} {ops : Array Oper} {rest : List Oper} {o : Oper} {a : Act} {Q : Exit → Act → World → Prop} (hgd : o.guard = none) (s x : Operand)
    (ho : o.op = .call { callee := .builtin .append, args := #[s, x], argTypes := #[40, 40] })
    (base : Nat) (v : Value) (n : Nat) (xs : List Value) (hs : a.eval s = v) (hown : w.ownsRow base 51 2 v n xs)
    (p : Option Addr) (l : List FV) (m c : Nat) (em : m = l.length) (hx : a.eval x = .slice p m c) (hr : FRow w p l) (hp : p = none → m = 0 ∧ c = 0)
    (hb : (n + m) * 32 ≤ 140737488355328) (hbase : base ≤ w.heap.size)
    (h : ∀ v' w', w'.ownsRow base 51 2 v' (n + m) (xs ++ fv l) → w.grownBy w' v.ownBlock → wpList Tryd.prog ops Q rest (a.put o.dst v') w') : wpList Tryd.prog ops Q (o :: rest) a w := by
  obtain ⟨i0, hi, hz0, hz1, hz2⟩ := info_parts info_fieldH
  subst em
  cases p with
  | none =>
    obtain ⟨h0, rfl⟩ := hp rfl
    have hl : l = [] := List.length_eq_zero_iff.1 h0
    subst hl
    refine wpList_append_own_none hgd s x 40 ho base 51 i0 2 Tryd.underlying40 hi v n xs hs hown hx ?_
    refine h v w (by simpa [fv] using hown) (World.grownBy.refl _ _)
  | some ad =>
    refine wpList_append_own _ hgd s x 40 ho base 51 i0 (.agg #[.string ⟨#[]⟩, .string ⟨#[]⟩]) 2 32 Tryd.underlying40 hi hz0 hz1 hz2 rfl (by decide) v n xs hs hown ad l.length c (fv l) hx (by rw [fv_length]) ?_ (fv_one l) (by unfold maxLen; omega) hb hbase (fun v' w' h1 h2 _ => h v' w' h1 h2)
    intro j u hj
    obtain ⟨b, o', e, hc⟩ := hr (fun e => by rw [e] at hj; simp [fv] at hj)
    obtain rfl := Option.some.inj e
    rw [Addr.add_lit]
    exact fv_cell hc j u hj

/-- A new block of fields is owned. -/
theorem own_new (w : World) (t : List FV) (C : Array Value) (hC : C = (fv t).toArray) (hl : t.length ≤ maxLen) : (w.alloc (.cells C 51)).ownsRow w.heap.size 51 2 (.slice (some ⟨w.heap.size, 0, none⟩) t.length t.length) t.length (fv t) := by
  subst hC
  refine ⟨fv_length t, .inr ⟨w.heap.size, t.length, (fv t).toArray, rfl, Nat.le_refl _, by show (w.heap.push _)[w.heap.size]? = _; simp, Nat.le_refl _, hl, by rw [List.size_toArray, fv_length], ?_⟩⟩
  show (fv t).take _ = _
  rw [← fv_length, List.take_length]

/-- slices.Clone of fields. -/
theorem clone_nil (w : World) : Calls Tryd.prog 46 #[.slice none 0 0] w fun e w' => e = .returned (.slice none 0 0) ∧ w' = w := by
  have hnil := Lib.run_eql_slice_nil (P := Tryd.prog) w 40 51 none 0 0 0 0 Tryd.underlying40
  go_enter Tryd.func46, Tryd.ntmps46
  go_wp2
  go_ret
  exact ⟨rfl, rfl⟩
set_option maxHeartbeats 1000000 in
theorem clone_any (p : Option Addr) (n c : Nat) (l : List FV) (en : n = l.length) (w : World) (hn : n ≤ 100) (hp : p = none → n = 0 ∧ c = 0) (hr : FRow w p l) :
    Calls Tryd.prog 46 #[.slice p n c] w fun e w' => Below w.heap.size w w' ∧ ∃ v, e = .returned v ∧ w'.ownsRow w.heap.size 51 2 v l.length (fv l) := by
  cases p with
  | none =>
    obtain ⟨rfl, rfl⟩ := hp rfl
    obtain rfl : l = [] := List.length_eq_zero_iff.1 en.symm
    refine (clone_nil w).mono ?_
    rintro e w' ⟨rfl, rfl⟩
    exact ⟨Below.refl _ _, _, rfl, World.ownsRow_nil _ _ _ _⟩
  | some a =>
    have hnil := Lib.run_eql_slice_nil (P := Tryd.prog) w 40 51 (some a) n c 0 0 Tryd.underlying40
    have ho := own_new w [] #[] rfl (by decide)
    have HR : Hid (FRow w (some a) l) := hr
    have EN : Hid (n = l.length) := en
    clear hr en hp
    go_enter Tryd.func46, Tryd.ntmps46
    go_wp2_with (at_builtin; refine wpList_append_frow rfl (.tmp 5) (.tmp 6) rfl w.heap.size _ _ _ rfl ho (some a) l n c EN.out rfl (HR.out.below ((Below.refl _ _).alloc (Nat.le_refl _) _)) (fun h => by cases h) ?d1 ?d2 ?_)
    case d1 => show (0 + n) * 32 ≤ _; omega
    case d2 => simp
    intro v1 w1 own1 grow1
    have hb1 : Below w.heap.size w w1 := ((Below.refl _ _).alloc (Nat.le_refl _) _).grown grow1 (by simp) (fun j hj => (ho.lt j hj).1)
    have R : w1.ownsRow w.heap.size 51 2 v1 l.length (fv l) := by
      rw [← EN.out]
      simpa [fv] using own1
    clear own1 grow1 ho
    go_wp2
    go_ret
    exact ⟨hb1, v1, rfl, R⟩

/-- 'append' of one field to a row that the call owns: the elder slice reads as it did. -/
theorem run_append_kept (w : World) (ty : TypeId) (base : Nat) (v : Value) (n : Nat) (xs : List Value) (hown : w.ownsRow base 51 2 v n xs) (ad : Addr) (a b : ByteArray)
    (hc : ∀ j u, [Value.string a, Value.string b][j]? = some u → w.cell? (ad.add j) = some u) (hn : n ≤ 1000) (hbase : base ≤ w.heap.size) :
    ∃ v' w', (Builtin.append_ #[40, 40] ty #[v, .slice (some ad) 1 1]).run Tryd.prog w = .ok v' w' ∧ w'.ownsRow base 51 2 v' (n + 1) (xs ++ [.string a, .string b]) ∧ Below base w w' ∧ w'.ownsRow base 51 2 v n xs := by
  obtain ⟨i0, hi, hz0, hz1, hz2⟩ := info_parts info_fieldH
  have h1c : ∀ u ∈ [Value.string a, Value.string b], u.oneCell' = true := by intro u hu; simp at hu; rcases hu with rfl | rfl <;> rfl
  obtain ⟨v', w', hr, h2, h3, _⟩ := run_append_own (P := Tryd.prog) w base 40 ty 51 i0 (.agg #[.string ⟨#[]⟩, .string ⟨#[]⟩]) 2 32 Tryd.underlying40 hi hz0 hz1 hz2 rfl (by decide) v n xs hown ad 1 1 [.string a, .string b] rfl hc h1c (by unfold maxLen; omega) (by omega) hbase
  have hb : Below base w w' := (Below.refl base w).grown h3 hbase (fun j hj => (hown.lt j hj).1)
  refine ⟨v', w', hr, h2, hb, ?_⟩
  have ho := hown
  rcases hown.2 with ⟨rfl, rfl⟩ | ⟨g, cap, cur, rfl, hbg, hg, hnc, hcm, hcs, htake⟩
  · have hx : xs = [] := List.eq_nil_of_length_eq_zero (by simpa using hown.1)
    subst hx
    exact World.ownsRow_nil _ _ _ _
  · by_cases hroom : n + 1 ≤ cap
    · have hr2 := run_append_room (P := Tryd.prog) w 40 ty 51 i0 Tryd.underlying40 hi g n cap cur hg ad 1 1 [.string a, .string b] (by rw [hz1]; rfl) hc h1c hroom (by rw [hz1, hcs]; simp; omega)
      rw [hr] at hr2
      injection hr2 with _ hw
      subst hw
      refine ⟨hown.1, .inr ⟨g, cap, _, rfl, hbg, setRow_heap w g cur _ _ _ hg, hnc, hcm, ?_, ?_⟩⟩
      · simp only [List.size_toArray, List.length_append, List.length_take, List.length_drop, Array.length_toList, List.length_cons, List.length_nil, hz1, hcs]
        omega
      · rw [hz1]
        show List.take (n * 2) (cur.toList.take (n * 2) ++ _ ++ _) = xs
        rw [List.append_assoc, List.take_append_of_le_length (by rw [List.length_take, Array.length_toList, hcs]; omega), List.take_take, Nat.min_self]
        exact htake
    · have holds : ∀ j u, xs[j]? = some u → w.cell? ((⟨g, 0, none⟩ : Addr).add j) = some u := ho.cells (g := g) rfl
      have hr2 := run_append_grow (P := Tryd.prog) w 40 ty 51 i0 (.agg #[.string ⟨#[]⟩, .string ⟨#[]⟩]) Tryd.underlying40 hi hz0 ⟨g, 0, none⟩ n cap xs (by rw [hz1]; exact hown.1) holds ad 1 1 [.string a, .string b] (by rw [hz1]; rfl) hc (by omega) (by omega) (by rw [hz2]; exact growslice_fits (by omega) (by omega))
      rw [hr] at hr2
      injection hr2 with _ hw
      subst hw
      exact ownsRow_below ho (((Below.refl _ _).drew).alloc (Nat.le_refl _) _)

/-- The same as one step of a region that draws its order. -/
theorem step_append_kept {ops : Array Oper} {o : Oper} {a : Act} {w : World} {K : Act → World → Prop} {Q : Exit → Act → World → Prop} {E : Prop}
    (hg : o.guard = none) (s x : Operand) (hop : o.op = Op.call { callee := Callee.builtin Builtin.append, args := #[s, x], argTypes := #[40, 40] })
    (base : Nat) (v : Value) (n : Nat) (xs : List Value) (hs : a.eval s = v) (hown : w.ownsRow base 51 2 v n xs) (ad : Addr) (A B : ByteArray) (hx : a.eval x = .slice (some ad) 1 1)
    (hc : ∀ j u, [Value.string A, Value.string B][j]? = some u → w.cell? (ad.add j) = some u) (hn : n ≤ 1000) (hbase : base ≤ w.heap.size)
    (hK : ∀ v' w', w'.ownsRow base 51 2 v' (n + 1) (xs ++ [.string A, .string B]) → Below base w w' → w'.ownsRow base 51 2 v n xs → K (a.put o.dst v') w') :
    if Region.wanted o (yielded ops a.tmps) = true then Oper.wp Tryd.prog o a w K Q else E := by
  have hw : Region.wanted o (yielded ops a.tmps) = true := by simp [Region.wanted, hg]
  rw [if_pos hw]
  obtain ⟨v', w', hrun, r1, r2, r3⟩ := run_append_kept w o.type base v n xs hown ad A B hc hn hbase
  unfold Oper.wp
  simp [execOp, hop, resolve, invoke, builtin, hs, hx, hrun, Result.andThen]
  exact hK v' w' r1 r2 r3
end Go.Proofs.YtnlnjjcfpbmpmaaDoor
