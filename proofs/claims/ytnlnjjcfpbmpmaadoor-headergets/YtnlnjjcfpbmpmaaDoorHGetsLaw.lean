/- The law HeaderGets' walk: it answers true, and nothing that was there is changed. Conditions: the fields lie there. -/
import Derived.Test.YtnlnjjcfpbmpmaaDoorHClone
import Derived.Test.YtnlnjjcfpbmpmaaDoorHeaded
import Derived.Deep.RegionHeld3
import Derived.Deep.RegionWith
namespace Go.Proofs.YtnlnjjcfpbmpmaaDoor
open Go.RowKit

theorem up_any (s : ByteArray) (ha : AsciiB s) (w : World) : Calls Tryd.prog 43 #[.string s] w fun e w' => e = .returned (.string (ba (Lib.toUpperA s.data.toList))) ∧ Below w.heap.size w w' :=
  Tryd.strings_ToUpper_ascii s w (by have := ha.1; omega) (fun j b hb => ha.2 b (List.mem_of_getElem? hb))
theorem down_any (s : ByteArray) (ha : AsciiB s) (w : World) : Calls Tryd.prog 44 #[.string s] w fun e w' => e = .returned (.string (ba (Lib.toLowerA s.data.toList))) ∧ Below w.heap.size w w' :=
  Tryd.strings_ToLower_ascii s w (by have := ha.1; omega) (fun j b hb => ha.2 b (List.mem_of_getElem? hb))

/-- Get by an ASCII name, of fields of ASCII names. -/
theorem get_ascii (w0 W : World) (nm : ByteArray) (hnm : AsciiB nm) (p : Option Addr) (n c : Nat) (l : List FV) (en : n = l.length) (hn : n ≤ 1000) (ha : ∀ f ∈ l, AsciiB f.1) (hr : FRow W p l) (hW : Below w0.heap.size w0 W) :
    Calls Tryd.prog 39 #[.slice p n c, .string nm] W fun e w' => e = .returned (.string (getE (sameN nm) l)) ∧ Below w0.heap.size w0 w' := by
  refine (hget_any (sameN nm) nm p n c l en W (by unfold maxLen; omega) (fun f hf w' _ => fold_ascii f.1 nm (ha f hf).1 (ha f hf).2 hnm.2 w') hr).mono ?_
  rintro e w' ⟨rfl, hb⟩
  exact ⟨rfl, hW.trans (hb.mono hW.size)⟩

/-- The same of fields that the call owns. -/
theorem get_own (B : Nat) (w0 W : World) (nm : ByteArray) (hnm : AsciiB nm) (v : Value) (l : List FV) (hn : l.length ≤ 1000) (ha : ∀ f ∈ l, AsciiB f.1) (ho : W.ownsRow B 51 2 v l.length (fv l)) (hW : Below B w0 W) (hB : B ≤ W.heap.size) :
    Calls Tryd.prog 39 #[v, .string nm] W fun e w' => e = .returned (.string (getE (sameN nm) l)) ∧ Below B w0 w' ∧ Below W.heap.size W w' := by
  obtain ⟨p, c, rfl, _, _, _, _, _, hr⟩ := owned_fields ho
  refine (get_ascii W W nm hnm p l.length c l rfl hn ha hr (Below.refl _ _)).mono ?_
  rintro e w' ⟨rfl, hb⟩
  exact ⟨rfl, hW.trans (hb.mono hB), hb⟩

/-- What is told of the names. -/
structure Names2 (FN UP DN : ByteArray) : Prop where
  a : AsciiB FN
  up : AsciiB UP
  dn : AsciiB DN
  su : ∀ s, sameN UP s = sameN FN s
  sd : ∀ s, sameN DN s = sameN FN s
  me : sameN FN FN = true
theorem names2 (FN : ByteArray) (h : tokenS FN.data.toList = true) : Names2 FN (ba (Lib.toUpperA FN.data.toList)) (ba (Lib.toLowerA FN.data.toList)) := by
  have hl := (token_facts h).2.1
  have ha : ∀ c ∈ FN.data.toList, c.toNat < 128 := fun c hc => by have := ((token_facts h).2.2 c hc).2.1; omega
  refine ⟨⟨by rw [Lib.size_eq]; omega, ha⟩, ⟨?_, ascii_upA _ ha⟩, ⟨?_, ascii_lowA _ ha⟩, fun s => ?_, fun s => ?_, fold_self _⟩
  · rw [ba_size]; unfold Lib.toUpperA; rw [List.length_map]; omega
  · rw [ba_size]; unfold Lib.toLowerA; rw [List.length_map]; omega
  · unfold sameN; rw [ba_data, fold_up]
  · unfold sameN; rw [ba_data, fold_down]

theorem get_first {FN UP DN : ByteArray} (h : Names2 FN UP DN) (V : ByteArray) (l : List FV) : getE (sameN UP) ((FN, V) :: l) = V ∧ getE (sameN DN) ((FN, V) :: l) = V :=
  ⟨getE_yes _ _ _ (by rw [h.su]; exact h.me), getE_yes _ _ _ (by rw [h.sd]; exact h.me)⟩
theorem get_kept (E : ByteArray → Bool) (r : List FV) : ∀ (l : List FV), (∀ f ∈ l, E f.1 = false) → getE E (l ++ r) = getE E r
  | [], _ => rfl
  | f :: l, h => by rw [List.cons_append, getE_no E f _ (h f (by simp)), get_kept E r l (fun x hx => h x (by simp [hx]))]
theorem kept_none (FN : ByteArray) (l : List FV) : ∀ f ∈ kept FN l, sameN FN f.1 = false := by
  intro f hf
  have := (List.mem_filter.1 hf).2
  simpa using this
theorem get_last {FN UP DN : ByteArray} (h : Names2 FN UP DN) (V : ByteArray) (l : List FV) : getE (sameN UP) (kept FN l ++ [(FN, V)]) = V ∧ getE (sameN DN) (kept FN l) = ⟨#[]⟩ := by
  constructor
  · rw [get_kept _ _ _ (fun f hf => by rw [h.su]; exact kept_none FN l f hf)]
    exact getE_yes _ _ _ (by rw [h.su]; exact h.me)
  · have := get_kept (sameN DN) [] (kept FN l) (fun f hf => by rw [h.sd]; exact kept_none FN l f hf)
    rw [List.append_nil] at this
    rw [this]; rfl

set_option maxHeartbeats 4000000 in
set_option maxRecDepth 100000 in
theorem gets_any (p0 : Option Addr) (n0 c0 : Nat) (l : List FV) (FN FV9 : ByteArray) (e0 : n0 = l.length) (w : World) (hb32 : n0 * 32 ≤ 140737488351232) (hl : FLen l) (hF1 : FN.size ≤ maxLen) (hF2 : FV9.size ≤ maxLen) (hr0 : FRow w p0 l) (hp0 : p0 = none → n0 = 0 ∧ c0 = 0) :
    Calls Tryd.prog 9 #[.slice p0 n0 c0, .agg #[.string FN, .string FV9]] w fun e w' => e = .returned (.bool true) ∧ Below w.heap.size w w' := by
  have ho : ((w.alloc (.cells #[.string FN, .string FV9] 51)).alloc (.cells #[.string FN, .string FV9] 51)).ownsRow (w.heap.size + 1) 51 2 (.slice (some ⟨w.heap.size + 1, 0, none⟩) 1 1) 1 (fv [(FN, FV9)]) := by
    simpa using own_new (w.alloc (.cells #[.string FN, .string FV9] 51)) [(FN, FV9)] #[.string FN, .string FV9] rfl (by unfold maxLen; simp)
  have HR0 : Hid (FRow w p0 l) := hr0
  have EN : Hid (n0 = l.length) := e0
  have HL : Hid (FLen ((FN, FV9) :: l)) := by
    intro f hf
    rcases List.mem_cons.1 hf with rfl | h
    · exact ⟨hF1, hF2⟩
    · exact hl f h
  clear hr0 e0 hl hF1 hF2
  go_enter Tryd.func9, Tryd.ntmps9
  go_wp2_with (at_builtin; refine wpList_append_frow rfl (.tmp 10) (.tmp 11) rfl (w.heap.size + 1) _ _ _ rfl ho p0 l n0 c0 EN.out rfl ?d0 hp0 ?d1 ?d2 ?_)
  case d0 => exact (HR0.out.below (((Below.refl _ _).alloc (Nat.le_refl _) _).alloc (by simp) _))
  case d1 => omega
  case d2 => simp
  intro v1 w1 own1 grow1
  have hb1 : Below (w.alloc (.cells #[.string FN, .string FV9] 51)).heap.size (w.alloc (.cells #[.string FN, .string FV9] 51)) w1 := ((Below.refl _ _).alloc (Nat.le_refl _) _).grown grow1 (by simp) (fun j hj => by have := (ho.lt j hj).1; simpa using this)
  have R1 : w1.ownsRow (w.heap.size + 1) 51 2 v1 ((FN, FV9) :: l).length (fv ((FN, FV9) :: l)) := by
    rw [List.length_cons, ← EN.out, Nat.add_comm n0 1]
    exact own1
  obtain ⟨m1, m2, m3, m4, m5, m6⟩ := made_two hb1
  obtain ⟨g, hg⟩ : ∃ g, g = w.heap.size := ⟨_, rfl⟩
  rw [← hg] at m1 m2 m5
  obtain ⟨p1, c1, rfl, hl1, hl2, hn1, _, _, hfr1⟩ := owned_fields R1
  have HF1 : Hid (FRow w1 p1 ((FN, FV9) :: l)) := hfr1
  clear own1 grow1 R1 ho hb1 m3 m4 hfr1
  obtain ⟨n1, hn1e⟩ : ∃ n1, n1 = ((FN, FV9) :: l).length := ⟨_, rfl⟩
  rw [← hn1e] at hl1 hn1 ⊢
  have EN1 : Hid (n1 = ((FN, FV9) :: l).length) := hn1e
  have EN01 : Hid (n1 = n0 + 1) := by unfold Hid; rw [hn1e, List.length_cons, EN.out]
  clear hn1e
  rw [← hg]
  have HGS : Hid (g = w.heap.size) := hg
  clear hg
  go_wp2_with fail
  refine (headed_any _).mono ?_
  rintro e w2 ⟨rfl, hb2⟩
  have hgl2 : g < w1.heap.size := m5
  have HF2 : Hid (FRow w2 p1 ((FN, FV9) :: l)) := HF1.out.below hb2
  have m1b : w2.cell? ⟨g, 0, none⟩ = some (.string FN) := (hb2.cell (p := ⟨g, 0, none⟩) hgl2).trans m1
  have m2b : w2.cell? ⟨g, 1, none⟩ = some (.string FV9) := (hb2.cell (p := ⟨g, 1, none⟩) hgl2).trans m2
  have HB2 : Below w.heap.size w w2 := m6.trans (hb2.mono m6.size)
  have CK := hcheck_any p1 n1 c1 ((FN, FV9) :: l) EN1.out w2 (by have := EN01.out; unfold maxLen; omega) HL.out HF2.out
  have hg2 : g < w2.heap.size := by have := hb2.size; omega
  clear hb2 HF1 m1 m2 m6 m5
  by_cases hk : checkV ((FN, FV9) :: l) = 0
  · rw [hk] at CK
    have HCK : Hid (Calls Tryd.prog 37 #[.slice p1 n1 c1] w2 fun e w' => e = .returned (.int .i64 0) ∧ Below w2.heap.size w2 w') := CK
    clear CK
    go_wp2_with fail
    refine HCK.out.mono ?_
    rintro e w3 ⟨rfl, hb3⟩
    clear HCK
    have HF3 : Hid (FRow w3 p1 ((FN, FV9) :: l)) := HF2.out.below hb3
    have hcell : ∀ w', Below w3.heap.size w3 w' → w'.cell? ⟨g, 0, none⟩ = some (.string FN) := fun w' hb => (hb.cell (p := ⟨g, 0, none⟩) (by have := hb3.size; show g < w3.heap.size; omega)).trans ((hb3.cell (p := ⟨g, 0, none⟩) hg2).trans m1b)
    have hcell2 : ∀ w', Below w3.heap.size w3 w' → w'.cell? ⟨g, 1, none⟩ = some (.string FV9) := fun w' hb => (hb.cell (p := ⟨g, 1, none⟩) (by have := hb3.size; show g < w3.heap.size; omega)).trans ((hb3.cell (p := ⟨g, 1, none⟩) hg2).trans m2b)
    have HB3 : Below w.heap.size w w3 := HB2.trans (hb3.mono HB2.size)
    have hg3 : g < w3.heap.size := by have := hb3.size; omega
    clear hb3 HF2 HB2 m1b m2b hg2
    have hc3 := hcell w3 (Below.refl _ _)
    have hc32 := hcell2 w3 (Below.refl _ _)
    have h33 : Below w3.heap.size w3 w3 := Below.refl _ _
    obtain ⟨k20, kok⟩ : ((FN, FV9) :: l).length ≤ 20 ∧ okAll ((FN, FV9) :: l) = true := by
      rcases checkV_cases ((FN, FV9) :: l) with ⟨_, a, b⟩ | h | h
      · exact ⟨a, b⟩
      · omega
      · omega
    have HAsc : Hid (∀ f ∈ (FN, FV9) :: l, AsciiB f.1) := fun f hf => by
      have hof := List.all_eq_true.1 kok f hf
      rw [okF, Bool.and_eq_true] at hof
      exact (names2 f.1 hof.1).a
    have HNm : Hid (Names2 FN (ba (Lib.toUpperA FN.data.toList)) (ba (Lib.toLowerA FN.data.toList))) := by
      have hof := List.all_eq_true.1 kok (FN, FV9) (by simp)
      rw [okF, Bool.and_eq_true] at hof
      exact names2 FN hof.1
    have CU : Hid (∀ w', Calls Tryd.prog 43 #[.string FN] w' fun e w'' => e = .returned (.string (ba (Lib.toUpperA FN.data.toList))) ∧ Below w'.heap.size w' w'') := fun w' => up_any FN HNm.out.a w'
    have CL : Hid (∀ w', Calls Tryd.prog 44 #[.string FN] w' fun e w'' => e = .returned (.string (ba (Lib.toLowerA FN.data.toList))) ∧ Below w'.heap.size w' w'') := fun w' => down_any FN HNm.out.a w'
    rw [← EN1.out] at k20
    generalize ba (Lib.toUpperA FN.data.toList) = UP at *
    generalize ba (Lib.toLowerA FN.data.toList) = DN at *
    clear kok hk
    go_wp2_with fail
    go_region_held3 (fun w' => Below w3.heap.size w3 w') (first | assumption | exact h33.drew) (first
      | (go_at_call 43; refine (CU.out _).mono ?_; rintro e w4 ⟨rfl, hb4⟩; have hbU : Below w3.heap.size w3 w4 := by first | exact (h33.drew).trans hb4 | exact hbL.trans (hb4.mono hbL.size))
      | (go_at_call 44; refine (CL.out _).mono ?_; rintro e w5 ⟨rfl, hb5⟩; have hbL : Below w3.heap.size w3 w5 := by first | exact (h33.drew).trans hb5 | exact hbU.trans (hb5.mono hbU.size)))
    have HB5 : Below w.heap.size w w5 := HB3.trans (hbL.mono HB3.size)
    have HF5 : Hid (FRow w5 p1 ((FN, FV9) :: l)) := HF3.out.below hbL
    have hcell5 : ∀ w', Below w5.heap.size w5 w' → w'.cell? ⟨g, 1, none⟩ = some (.string FV9) := fun w' hb => hcell2 w' (hbL.trans (hb.mono hbL.size))
    have hcell50 : ∀ w', Below w5.heap.size w5 w' → w'.cell? ⟨g, 0, none⟩ = some (.string FN) := fun w' hb => hcell w' (hbL.trans (hb.mono hbL.size))
    have hg5 : g < w5.heap.size := by have := hbL.size; omega
    have hc5 := hcell5 w5 (Below.refl _ _)
    have h55 : Below w5.heap.size w5 w5 := Below.refl _ _
    have CG1 : Hid (∀ W, Below w5.heap.size w5 W → Calls Tryd.prog 39 #[.slice p1 n1 c1, .string UP] W fun e w' => e = .returned (.string FV9) ∧ Below w5.heap.size w5 w') := fun W hW => by
      have := get_ascii w5 W UP HNm.out.up p1 n1 c1 _ EN1.out (by omega) HAsc.out (HF5.out.below hW) hW
      rw [(get_first HNm.out FV9 l).1] at this
      exact this
    have CG2 : Hid (∀ W, Below w5.heap.size w5 W → Calls Tryd.prog 39 #[.slice p1 n1 c1, .string DN] W fun e w' => e = .returned (.string FV9) ∧ Below w5.heap.size w5 w') := fun W hW => by
      have := get_ascii w5 W DN HNm.out.dn p1 n1 c1 _ EN1.out (by omega) HAsc.out (HF5.out.below hW) hW
      rw [(get_first HNm.out FV9 l).2] at this
      exact this
    clear hb4 hb5 hbU hbL CU CL h33 hc3 hc32 hcell hcell2 HF3 HB3 hg3
    go_wp2_with fail
    go_region_held3 (fun w' => Below w5.heap.size w5 w') (first | assumption | exact h55.drew) (first
      | (go_at_call_of 39 UP; refine (CG1.out _ (by first | assumption | exact h55.drew)).mono ?_; rintro e w6 ⟨rfl, hb6⟩; have hc6 := hcell5 w6 hb6)
      | (go_at_call_of 39 DN; refine (CG2.out _ (by first | assumption | exact h55.drew)).mono ?_; rintro e w7 ⟨rfl, hb7⟩; have hc7 := hcell5 w7 hb7))
    have HB7 : Below w.heap.size w w7 := HB5.trans (hb7.mono HB5.size)
    have hcg7 := hcell50 w7 hb7
    have hg7 : g < w7.heap.size := by have := hb7.size; omega
    have CC : Hid (Calls Tryd.prog 46 #[.slice p0 n0 c0] w7 fun e w' => Below w7.heap.size w7 w' ∧ ∃ v, e = .returned v ∧ w'.ownsRow w7.heap.size 51 2 v l.length (fv l)) := clone_any p0 n0 c0 l EN.out w7 (by have := EN01.out; omega) hp0 (HR0.out.below HB7)
    clear hb6 hc6 CG1 CG2 HF5 HB5 hcell5 hcell50 hc5 h55 hg5
    go_wp2_with fail
    refine CC.out.mono ?_
    rintro e w8 ⟨hb8, v8, rfl, own8⟩
    clear CC
    have hs8 := hb8.size
    have CD : Hid (Calls Tryd.prog 45 #[v8, .func (Fn.func 47) #[] #[.pointer (some ⟨g, 0, none⟩)]] w8 fun e w' => Below w7.heap.size w8 w' ∧ ∃ v', e = .returned v' ∧ w'.ownsRow w7.heap.size 51 2 v' (kept FN l).length (fv (kept FN l))) :=
      delete_any w7.heap.size g FN HNm.out.a v8 l w8 (by have := EN.out; have := EN01.out; omega) (fun f hf => HAsc.out f (by simp [hf])) ((hb8.cell (p := ⟨g, 0, none⟩) hg7).trans hcg7) hg7 hs8 own8
    clear own8
    go_wp2_with fail
    refine CD.out.mono ?_
    rintro e w9 ⟨hb9, v9, rfl, own9⟩
    clear CD
    have hS9 : Below w7.heap.size w7 w9 := hb8.trans hb9
    have hs9 := hS9.size
    have hkl : (kept FN l).length ≤ 100 := by
      have h1 : (kept FN l).length ≤ l.length := List.length_filter_le _ _
      have := EN.out
      have := EN01.out
      omega
    have HAk : Hid (∀ f ∈ kept FN l, AsciiB f.1) := fun f hf => HAsc.out f (by simp [(List.mem_filter.1 hf).1])
    have CGA : Hid (∀ (v : Value) (W : World), W.ownsRow w7.heap.size 51 2 v ((kept FN l).length + 1) (fv (kept FN l) ++ [.string FN, .string FV9]) → Below w7.heap.size w7 W → Calls Tryd.prog 39 #[v, .string UP] W fun e w' => e = .returned (.string FV9) ∧ Below w7.heap.size w7 w' ∧ Below W.heap.size W w') := fun v W hO hW => by
      have h1 : W.ownsRow w7.heap.size 51 2 v (kept FN l ++ [(FN, FV9)]).length (fv (kept FN l ++ [(FN, FV9)])) := by rw [fv_snoc, List.length_append]; exact hO
      have := get_own w7.heap.size w7 W UP HNm.out.up v _ (by rw [List.length_append, List.length_singleton]; omega) (fun f hf => by
        rcases List.mem_append.1 hf with h | h
        · exact HAk.out f h
        · simp at h; subst h; exact HNm.out.a) h1 hW hW.size
      rw [(get_last HNm.out FV9 l).1] at this
      exact this
    have CGN : Hid (∀ (v : Value) (W : World), W.ownsRow w7.heap.size 51 2 v (kept FN l).length (fv (kept FN l)) → Below w7.heap.size w7 W → Calls Tryd.prog 39 #[v, .string DN] W fun e w' => e = .returned (.string ⟨#[]⟩) ∧ Below w7.heap.size w7 w' ∧ Below W.heap.size W w') := fun v W hO hW => by
      have := get_own w7.heap.size w7 W DN HNm.out.dn v _ (by omega) HAk.out hO hW hW.size
      rw [(get_last HNm.out FV9 l).2] at this
      exact this
    generalize hK : (kept FN l).length = k9 at *
    generalize fv (kept FN l) = xs9 at *
    clear hK
    have cA : ∀ j x, [Value.string FN, Value.string FV9][j]? = some x → ((w9.alloc (.cells #[.string FN, .string FV9] 51)).drew).cell? ((⟨w9.heap.size, 0, none⟩ : Addr).add j) = some x := cell_pair w9 _ _ _
    have CA : Hid (∀ j x, [Value.string FN, Value.string FV9][j]? = some x → ((w9.alloc (.cells #[.string FN, .string FV9] 51)).drew).cell? ((⟨w9.heap.size, 0, none⟩ : Addr).add j) = some x) := cA
    have OA : Hid (((w9.alloc (.cells #[.string FN, .string FV9] 51)).drew).ownsRow w7.heap.size 51 2 v9 k9 xs9) := own9.alloc _
    have hSA : Below w7.heap.size w7 ((w9.alloc (.cells #[.string FN, .string FV9] 51)).drew) := (hS9.alloc hs9 _).drew
    have hg0 : w9.cell? ⟨g, 0, none⟩ = some (.string FN) := (hS9.cell (p := ⟨g, 0, none⟩) hg7).trans hcg7
    have hg1 : w9.cell? ⟨g, 1, none⟩ = some (.string FV9) := (hS9.cell (p := ⟨g, 1, none⟩) hg7).trans hc7
    have hgS : ∀ w', Below w7.heap.size w7 w' → w'.cell? ⟨g, 1, none⟩ = some (.string FV9) := fun w' hb => (hb.cell (p := ⟨g, 1, none⟩) hg7).trans hc7
    have hgS0 : ∀ w', Below w7.heap.size w7 w' → w'.cell? ⟨g, 0, none⟩ = some (.string FN) := fun w' hb => (hb.cell (p := ⟨g, 0, none⟩) hg7).trans hcg7
    clear cA own9 hb8 hb9
    go_wp2_with fail
    go_region_held3 (fun w' => Below w7.heap.size w7 w') (first | assumption | exact hS9.drew | exact (hS9.alloc hs9 _).drew | exact (hS9.drew.alloc hs9 _)) (first
      | (refine step_append_kept rfl (.tmp 45) (.tmp 47) rfl w7.heap.size v9 k9 xs9 (by simp [Act.eval]) OA.out ⟨w9.heap.size, 0, none⟩ FN FV9 (by simp [Act.eval]) CA.out (by omega) (by simp; omega) ?_; intro v10 w10 own10 hb10 keep10; have hS10 : Below w7.heap.size w7 w10 := hSA.trans hb10; have hg10 := hgS w10 hS10)
      | (go_at_call_of 39 UP; refine (CGA.out _ _ own10 hS10).mono ?_; rintro e w11 ⟨rfl, hb11, hb11'⟩; have keep11 := ownsRow_below keep10 hb11'; have hg11 := hgS w11 hb11)
      | (go_at_call_of 39 DN; refine (CGN.out _ _ keep11 hb11).mono ?_; rintro e w12 ⟨rfl, hb12, _⟩))
    go_wp2
    go_ret
    exact ⟨rfl, HB7.trans (hb12.mono HB7.size)⟩
  · have hk1 : (((checkV ((FN, FV9) :: l) : Nat) : Int) == 0) = false := by rw [beq_eq_false_iff_ne]; omega
    generalize checkV ((FN, FV9) :: l) = E0 at *
    have hk2 : ¬ (E0 : Int) = 0 := by omega
    have HCK : Hid (Calls Tryd.prog 37 #[.slice p1 n1 c1] w2 fun e w' => e = .returned (.int .i64 (E0 : Int)) ∧ Below w2.heap.size w2 w') := CK
    clear CK
    go_wp2_with fail
    refine HCK.out.mono ?_
    rintro e w3 ⟨rfl, hb3⟩
    clear HCK
    have HB3 : Below w.heap.size w w3 := HB2.trans (hb3.mono HB2.size)
    clear hb3 HB2
    go_wp2_with fail
    refine (headed_any _).mono ?_
    rintro e w4 ⟨rfl, hb4⟩
    have HB4 : Below w.heap.size w w4 := HB3.trans (hb4.mono HB3.size)
    clear hb4 HB3
    go_wp2
    go_ret
    exact ⟨rfl, HB4⟩
end Go.Proofs.YtnlnjjcfpbmpmaaDoor
