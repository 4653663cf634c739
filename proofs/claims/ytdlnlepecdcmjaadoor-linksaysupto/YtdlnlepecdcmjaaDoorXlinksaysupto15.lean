/- string(b) of bytes that lie there. No function of the program. -/
import Derived.Test.YtdlnlepecdcmjaaDoorXlinksaysupto1
import Derived.Test.YtdlnlepecdcmjaaDoorXlinksaysupto14
import Derived.Laws.AppendOwnNone
namespace Go.Proofs.YtdlnlepecdcmjaaDoor
open Go.RowKit

theorem conv_bytes (w : World) (p : Option Addr) (n c : Nat) (L : List UInt8) (en : n = L.length) (hr : BRow w p L) (hp : p = none → n = 0 ∧ c = 0) : (convert 22 9 (.slice p n c)).run Tryd.prog w = .ok (.string ⟨L.toArray⟩) w := by
  cases p with
  | none =>
    obtain ⟨h0, rfl⟩ := hp rfl
    subst h0
    obtain rfl : L = [] := List.length_eq_zero_iff.1 en.symm
    exact convert_nil w
  | some a =>
    subst en
    refine run_convert_bytes_back (P := Tryd.prog) w 22 9 5 a c L Tryd.underlying22 Tryd.underlying5 Tryd.underlying9 (fun j hj => ?_)
    obtain ⟨b, o, e, hc⟩ := hr (fun e => by rw [e] at hj; exact absurd hj (by simp))
    obtain rfl := Option.some.inj e
    rw [Addr.add_lit, hc j hj]
    simp [List.getD_eq_getElem?_getD, List.getElem?_eq_getElem hj]

end Go.Proofs.YtdlnlepecdcmjaaDoor

/- link's Find: the links of a page, in new memory; nothing that was there is changed. -/
namespace Go.Proofs.YtdlnlepecdcmjaaDoor
open Go.RowKit

theorem lv_one (n : Nat) (l : List LK) : ∀ u ∈ lv n l, u.oneCell' = true := by
  intro u hu
  simp only [lv, List.mem_flatMap, lkv] at hu
  obtain ⟨x, _, hx⟩ := hu
  simp at hx
  rcases hx with rfl | rfl | rfl <;> rfl
/-- A list of links is put behind another one. -/
theorem append_links {w : World} {ops : Array Oper} {rest : List Oper} {o : Oper} {a : Act} {Q : Exit → Act → World → Prop} (hgd : o.guard = none) (s x : Operand)
    (ho : o.op = .call { callee := .builtin .append, args := #[s, x], argTypes := #[24, 24] })
    (base : Nat) (v : Value) (n : Nat) (xs : List Value) (hs : a.eval s = v) (hown : w.ownsRow base 33 3 v n xs)
    (B2 : Nat) (v2 : Value) (N : Nat) (l : List LK) (hx : a.eval x = v2) (hr : w.ownsRow B2 33 3 v2 l.length (lv N l))
    (h63 : n + l.length ≤ 100000000) (hbase : base ≤ w.heap.size)
    (h : ∀ v' w', w'.ownsRow base 33 3 v' (n + l.length) (xs ++ lv N l) → w.grownBy w' v.ownBlock → wpList Tryd.prog ops Q rest (a.put o.dst v') w') : wpList Tryd.prog ops Q (o :: rest) a w := by
  obtain ⟨i0, hi, hz0, hz1, hz2⟩ := info_parts info_link
  have hcl := fun g hg => hr.cells (g := g) hg
  rcases hr.2 with ⟨hv, h0⟩ | ⟨g, cap, cur, hv, _⟩
  · subst hv
    have hl : l = [] := List.length_eq_zero_iff.1 h0
    subst hl
    refine wpList_append_own_none hgd s x 24 ho base 33 i0 3 Tryd.underlying24 hi v n xs hs hown hx ?_
    refine h v w (by simpa [lv] using hown) (World.grownBy.refl _ _)
  · subst hv
    refine wpList_append_own _ hgd s x 24 ho base 33 i0 (.agg #[.int .i64 0, .int .i64 0, .string ⟨#[]⟩]) 3 32 Tryd.underlying24 hi hz0 hz1 hz2 rfl (by decide) v n xs hs hown ⟨g, 0, none⟩ l.length cap (lv N l) hx (lv_length N l) (hcl g rfl) (lv_one N l) (by unfold maxLen; omega) (by omega) hbase (fun v' w' h1 h2 _ => h v' w' h1 h2)
/-- What Find answers. -/
def FindPost (w : World) (N : Nat) (r : Option (List LK)) (e : Ending) (w' : World) : Prop := Below w.heap.size w w' ∧ match r with
  | none => e = .returned (.tuple #[.slice none 0 0, .int .i64 2])
  | some l => ∃ v, e = .returned (.tuple #[v, .int .i64 0]) ∧ w'.ownsRow w.heap.size 33 3 v l.length (lv N l)
structure FindAt (w : World) (G : Nat) (p : ByteArray) (b : List UInt8) (gk : Nat) (v : Value) (wr : World) (sj : List UInt8) (acc : List LK) : Prop where
  few : sj.length < gk
  la : acc.length ≤ 60
  suf : Suf p sj
  rd : RdAt wr G p (pos p sj)
  bel : Below w.heap.size w wr
  own : wr.ownsRow (w.heap.size + 1) 33 3 v acc.length (lv p.size acc)
  eq : findP lowT b = findF lowT sj.length acc sj
theorem tag_few (low : List UInt8 → List UInt8) : ∀ (n : Nat) (seen : List (List UInt8)) (s : List UInt8) (l : List LK), (tagF low n seen s).1 = some l → l.length ≤ s.length
  | 0, _, _, _, h => by cases h
  | n + 1, seen, s, l, h => by
    unfold tagF at h
    cases hd : s.dropWhile inGap with
    | nil => rw [hd] at h; cases h
    | cons c t =>
      rw [hd] at h
      simp only at h
      have h3 := dropWhile_le_cons hd
      have h4 := attr_len c t
      split at h
      · cases h; exact Nat.zero_le _
      · simp only [Option.map_eq_some_iff] at h
        obtain ⟨l1, h1, rfl⟩ := h
        have h5 := tag_few low n _ _ l1 h1
        have h6 : (mineP seen (low (nameP (c :: t))) (attrP (c :: t)).1).length ≤ 1 := by
          unfold mineP
          split
          · exact Nat.zero_le _
          · split <;> simp
        rw [List.length_append]
        omega
theorem piece_few (low : List UInt8 → List UInt8) (s : List UInt8) : (pieceP low s).1.length ≤ s.length := by
  unfold pieceP
  split
  · exact Nat.zero_le _
  · split
    · exact Nat.zero_le _
    · split
      · simp only [tagP]
        cases h : (tagF low ((List.dropWhile inName (List.drop 1 s)).length + 1) [] (List.dropWhile inName (List.drop 1 s))).1 with
        | none => exact Nat.zero_le _
        | some l =>
          have h1 := tag_few low _ _ _ l h
          have h2 := drop_dropWhile inName (List.drop 1 s)
          rw [List.length_drop] at h2
          simp only [Option.getD_some]
          omega
      · split <;> exact Nat.zero_le _
set_option maxHeartbeats 8000000 in
set_option maxRecDepth 100000 in
theorem find_any (w0 : World) (HE : LEnv w0) (q : Option Addr) (n c : Nat) (b : List UInt8) (en : n = b.length) (w : World) (hb : Below w0.heap.size w0 w) (hr : BRow w q b) (hq : q = none → n = 0 ∧ c = 0) :
    Calls Tryd.prog 4 #[.slice q n c] w fun e w' => FindPost w b.length (findP lowT b) e w' := by
  by_cases h4 : 4000 < n
  · have h4' : (4000 : Int) < (n : Int) := by omega
    have HN : Hid (findP lowT b = none) := by unfold Hid findP; rw [if_pos (by omega)]
    clear en
    go_enter Tryd.func4, Tryd.ntmps4
    go_wp2_with fail
    go_ret2
    show FindPost _ _ _ _ _
    rw [HN.out]
    exact ⟨Below.refl _ _, rfl⟩
  · have h4' : ¬ (4000 : Int) < (n : Int) := by omega
    have hcv := conv_bytes w q n c b en hr hq
    obtain ⟨p, hp⟩ : ∃ p, p = lba b := ⟨_, rfl⟩
    have hps : p.size = b.length := by rw [hp, lba_size]
    have hpd : p.data.toList = b := by rw [hp]; rfl
    have hcv' : (convert 22 9 (.slice q n c)).run Tryd.prog w = .ok (.string p) w := by rw [hp]; exact hcv
    have hb4 : p.size ≤ 4000 := by omega
    have HG : Hid (w0.heap.size ≤ w.heap.size) := hb.size
    have HEV : Hid (LEnv w0) := HE
    have HB : Hid (Below w0.heap.size w0 w) := hb
    have hba : Below w.heap.size w (w.alloc (.cells #[.string p, .int .i64 0] 38)) := (Below.refl _ _).alloc (Nat.le_refl _) _
    have hr0 : RdAt (w.alloc (.cells #[.string p, .int .i64 0] 38)) w.heap.size p (pos p b) := by
      have := rd_new w p 0
      have e : ((pos p b : Nat) : Int) = 0 := by unfold pos; omega
      rw [e]
      exact this
    have HA0 : Hid (FindAt w w.heap.size p b (b.length + 1) (.slice none 0 0) (w.alloc (.cells #[.string p, .int .i64 0] 38)) b []) := ⟨Nat.lt_succ_self _, by simp, by unfold Suf; rw [hpd]; exact List.suffix_refl _, hr0, hba, World.ownsRow_nil _ _ _ _, by unfold findP; rw [if_neg (by omega)]⟩
    have HPS : Hid (p.size = b.length) := hps
    have HPO : Hid (∀ e w', FindPost w p.size (findP lowT b) e w' → FindPost w b.length (findP lowT b) e w') := fun e w' h => hps ▸ h
    clear hcv hp hpd en hr hq HE hb hba hr0 hps
    go_enter Tryd.func4, Tryd.ntmps4
    go_wp2_with fail
    go_loopg [5] (b.length + 1) (fun gk v wr => ∃ (sj : List UInt8) (acc : List LK), Hid (FindAt w w.heap.size p b gk v wr sj acc))
    case atStart => exact ⟨b, [], HA0⟩
    case round =>
      obtain ⟨sj, acc, HJ⟩ := hrel
      clear HA0 hcv'
      obtain ⟨a3, c3, rfl, hac, hcm, hnn⟩ := slice_of HJ.out.own
      have hla := HJ.out.la
      have hSj := HJ.out.suf
      have CD : Hid (∀ W, RdAt W w.heap.size p (pos p sj) → Calls Tryd.prog 11 #[.pointer (some ⟨w.heap.size, 0, none⟩)] W fun e w' => e = .returned (.bool (decide (sj = []))) ∧ ∃ m, w' = W.drewN m) := fun W hW => done_suf _ p _ hSj _ rfl W hW
      go_wp2_with fail
      refine (CD.out _ HJ.out.rd).mono ?_
      rintro e w2 ⟨rfl, n2, rfl⟩
      clear CD
      by_cases hs : sj = []
      · rw [decide_eq_true hs]
        have HN : Hid (findP lowT b = some acc) := by unfold Hid; rw [HJ.out.eq, hs]; rfl
        have HF : Hid (Below w.heap.size w (wr.drewN n2)) := below_many HJ.out.bel _
        have HO : Hid ((wr.drewN n2).ownsRow w.heap.size 33 3 (.slice a3 acc.length c3) acc.length (lv p.size acc)) := ownsRow_base HJ.out.own (by omega)
        clear HJ hs hSj
        go_wp2_with fail
        go_ret2
        refine HPO.out _ _ ?_
        show FindPost _ _ _ _ _
        rw [HN.out]
        exact ⟨HF.out, _, rfl, HO.out⟩
      · rw [decide_eq_false hs]
        have HR2 := HJ.out.rd.drewN n2
        have HB2 : Below w.heap.size w (wr.drewN n2) := below_many HJ.out.bel _
        have HO2 : (wr.drewN n2).ownsRow (w.heap.size + 1) 33 3 (.slice a3 acc.length c3) acc.length (lv p.size acc) := HJ.out.own
        generalize wr.drewN n2 = w2 at *
        have CP : Hid (Calls Tryd.prog 12 #[.pointer (some ⟨w.heap.size, 0, none⟩)] w2 fun e w' => TagPost w2 w.heap.size p (some (pieceP lowT sj).1, (pieceP lowT sj).2) e w') := piece_any w0 HEV.out w.heap.size HG.out p sj hs hSj w2 HR2 (HB.out.trans (HB2.mono HG.out)) hb4
        have HEQ : Hid (findP lowT b = if 60 < (acc ++ (pieceP lowT sj).1).length then none else findF lowT (pieceP lowT sj).2.length (acc ++ (pieceP lowT sj).1) (pieceP lowT sj).2) := by
          unfold Hid
          rw [HJ.out.eq]
          cases sj with
          | nil => exact absurd rfl hs
          | cons c t =>
            have hl := piece_len lowT c t
            rw [List.length_cons, findF, if_neg (by simp)]
            rw [findF_fuel lowT t.length (pieceP lowT (c :: t)).2.length _ _ (by simp only [List.length_cons] at hl; omega) (Nat.le_refl _)]
        have hpl : (pieceP lowT sj).2.length < gk - 1 := by
          have h1 := HJ.out.few
          cases sj with
          | nil => exact absurd rfl hs
          | cons c t => have := piece_len lowT c t; omega
        have hpf : (pieceP lowT sj).1.length ≤ 4000 := by have := piece_few lowT sj; have := hSj.len; omega
        have HSF : Hid (Suf p (pieceP lowT sj).2) := (piece_suf lowT sj).trans hSj
        have hfew := HJ.out.few
        clear HJ hs hSj
        generalize (pieceP lowT sj).1 = l2 at *
        generalize (pieceP lowT sj).2 = R2 at *
        go_wp2_with fail
        refine CP.out.mono ?_
        rintro e w3 ⟨v3, rfl, hown3, hm3⟩
        simp only [Option.getD_some] at hown3
        have hr3 := hm3.rd HR2
        have hb3 : Below w.heap.size w w3 := hm3.base HB2 (Nat.le_refl _)
        have hown2 := hm3.owns HO2 (by omega)
        have hlt3 := hr3.lt
        have HOB : Hid (∀ k, (Value.slice a3 acc.length c3).ownBlock = some k → w.heap.size + 1 ≤ k ∧ k < w3.heap.size) := hown2.lt
        obtain ⟨a4, c4, rfl, _, _, _⟩ := slice_of hown3
        clear CP HR2 HB2 HO2 hm3
        go_wp2_with (at_builtin; refine append_links rfl (.tmp 16) (.tmp 18) rfl (w.heap.size + 1) _ acc.length (lv p.size acc) rfl hown2 _ _ p.size l2 rfl hown3 (by omega) (by omega) ?_)
        intro v5 w5 hown5 hg5
        have hr5 : RdAt w5 w.heap.size p (pos p R2) := hr3.grown hg5 (by intro e; have := HOB.out _ e.symm; omega)
        have hb5 : Below w.heap.size w w5 := hb3.grown hg5 hb3.size (fun k hk => by have := HOB.out k hk; omega)
        have hown5' : w5.ownsRow (w.heap.size + 1) 33 3 v5 (acc ++ l2).length (lv p.size (acc ++ l2)) := by rw [lv_app, List.length_append]; exact hown5
        clear hown5 hg5 hr3 hb3 hown2 hown3 HOB
        obtain ⟨a5, c5, rfl, hac5, hcm5, _⟩ := slice_of hown5'
        have e5 : (acc ++ l2).length = acc.length + l2.length := List.length_append
        have HO5 : Hid (w5.ownsRow (w.heap.size + 1) 33 3 (.slice a5 (acc ++ l2).length c5) (acc ++ l2).length (lv p.size (acc ++ l2))) := hown5'
        clear hown5'
        by_cases h60 : 60 < (acc ++ l2).length
        · have h60' : (60 : Int) < (((acc ++ l2).length : Nat) : Int) := by omega
          have HN : Hid (findP lowT b = none) := by unfold Hid; rw [HEQ.out, if_pos h60]
          have HF : Hid (Below w.heap.size w w5) := hb5
          clear HEQ hr5 hb5 HO5 HSF e5
          generalize (acc ++ l2).length = nn at *
          go_wp2_with fail
          go_ret2
          refine HPO.out _ _ ?_
          show FindPost _ _ _ _ _
          rw [HN.out]
          exact ⟨HF.out, rfl⟩
        · have h60' : ¬ (60 : Int) < (((acc ++ l2).length : Nat) : Int) := by omega
          have HRL : Hid (FindAt w w.heap.size p b (gk - 1) (.slice a5 (acc ++ l2).length c5) w5 R2 (acc ++ l2)) := ⟨hpl, by omega, HSF.out, hr5, hb5, HO5.out, by rw [HEQ.out, if_neg h60]⟩
          clear HEQ hr5 hb5 HO5 HSF e5
          generalize (acc ++ l2).length = nn at *
          go_wp2_with fail
          go_roundg (gk - 1)
          case measure => omega
          case rel => exact ⟨R2, acc ++ l2, HRL⟩
end Go.Proofs.YtdlnlepecdcmjaaDoor
