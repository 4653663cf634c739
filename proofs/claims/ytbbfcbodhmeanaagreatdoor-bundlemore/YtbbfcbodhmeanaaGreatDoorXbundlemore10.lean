
import Derived.Test.YtbbfcbodhmeanaaGreatDoorXbundlemore9
import Derived.Deep.RegionHeld3
namespace Go.Proofs.YtbbfcbodhmeanaaGreatDoor
open Go.RowKit
def lowT (l : List UInt8) : List UInt8 := Lib.toLowerD l
def lkO (n : Nat) (v : Option LK) : Array Value := match v with
 | none => #[.int .i64 0, .int .i64 0, .string ⟨#[]⟩]
 | some x => lkv n x
theorem name_ext {p : ByteArray} {c : UInt8} {t : List UInt8} (hS : Suf p (c :: t)) : p.extract (pos p (c :: t)) (pos p (t.dropWhile inAttr)) = lba (nameP (c :: t)) := by
 rw [name_cons]
 exact ext_of hS (by rw [List.cons_append, tw_dw])
set_option maxHeartbeats 8000000 in
set_option maxRecDepth 100000 in
theorem attr_no (w0 : World) (HE : LEnv w0) (g : Nat) (hg : w0.heap.size ≤ g) (p : ByteArray) (c : UInt8) (t : List UInt8) (hS : Suf p (c :: t)) (w : World) (hr : RdAt w g p (pos p (c :: t))) (hb : Below w0.heap.size w0 w) (hp : p.size ≤ 4000)
  (h61 : ((((t.dropWhile inAttr).dropWhile spB)).head? == some 61) = false) :
  Calls Tryz.prog 175 #[.pointer (some ⟨g, 0, none⟩)] w fun e w' => e = .returned (.tuple #[.string (lba (lowT (nameP (c :: t)))), .agg (lkO p.size none), .bool false]) ∧ Moves w g (pos p ((t.dropWhile inAttr).dropWhile spB)) w' := by
 have HR : Hid (RdAt w g p (pos p (c :: t))) := hr
 have hlt := hr.lt
 have hne : g ≠ w.heap.size := by omega
 have S1 := hS.tl
 have S2 := S1.dw inAttr
 have S3 := S2.dw spB
 have CP1 : Hid (∀ W, RdAt W g p (pos p t) → Calls Tryz.prog 170 #[.pointer (some ⟨g, 0, none⟩), .func (Fn.func 201) #[] #[]] W fun e w' => e = .returned (.string (lba (t.takeWhile inAttr))) ∧ Moves W g (pos p (t.dropWhile inAttr)) w') := fun W h1 => pass_suf _ #[] inAttr (fun _ => True) g p t S1 W h1 trivial (ask_attr1 g) hp
 have CP2 : Hid (∀ W, RdAt W g p (pos p (t.dropWhile inAttr)) → Calls Tryz.prog 170 #[.pointer (some ⟨g, 0, none⟩), .func (Fn.func 172) #[] #[]] W fun e w' => e = .returned (.string (lba ((t.dropWhile inAttr).takeWhile spB))) ∧ Moves W g (pos p ((t.dropWhile inAttr).dropWhile spB)) w') := fun W h1 => pass_suf _ #[] spB (fun _ => True) g p _ S2 W h1 trivial (ask_space g) hp
 have CS : Hid (∀ W, RdAt W g p (pos p ((t.dropWhile inAttr).dropWhile spB)) → Calls Tryz.prog 174 #[.pointer (some ⟨g, 0, none⟩), .int .u8 61] W fun e w' => e = .returned (.bool false) ∧ ∃ m, w' = W.drewN m) := fun W hW => sees_suf g p _ S3 61 61 rfl false h61 W hW
 have hnl : (nameP (c :: t)).length ≤ 4000 := by
  rw [name_cons, List.length_cons]
  have := (List.takeWhile_prefix (l := t) inAttr).length_le
  have := hS.len
  simp only [List.length_cons] at this
  omega
 have CT : Hid (∀ W, Below w0.heap.size w0 W → Calls Tryz.prog 202 #[.string (lba (nameP (c :: t)))] W fun e w' => e = .returned (.string (lba (lowT (nameP (c :: t))))) ∧ Below W.heap.size W w') := fun W hW => Tryz.strings_ToLower_any (lba (nameP (c :: t))) W (by rw [lba_size]; omega) (HE W hW).cv (HE W hW).u8
 have HB : Hid (Below w0.heap.size w0 w) := hb
 have hx := name_ext hS
 have hk1 : pos p t = pos p (c :: t) + 1 := pos_plus hS (a := [c]) rfl
 have hk2 : pos p (c :: t) ≤ pos p (t.dropWhile inAttr) := by
  have h1 := pos_plus S1 (tw_dw inAttr t)
  omega
 have hk3 := pos_le p (t.dropWhile inAttr)
 have hba : Below w.heap.size w (w.alloc linkZ) := (Below.refl _ _).alloc (Nat.le_refl _) _
 have hnew := lnew w linkZ
 rw [hk1] at CP1
 unfold lkO
 generalize lba (lowT (nameP (c :: t))) = NL at *
 generalize lba (nameP (c :: t)) = NM at *
 generalize pos p ((t.dropWhile inAttr).dropWhile spB) = m3 at *
 generalize pos p (t.dropWhile inAttr) = m2 at *
 generalize pos p (c :: t) = k at *
 have hki : (k : Int) ≤ (m2 : Int) := by omega
 have hkj : (m2 : Int) ≤ (p.size : Int) := by omega
 have hwr : IntKind.i64.wrap ((k : Int) + 1) = ((k + 1 : Nat) : Int) := by rw [IntKind.wrap_i64]; omega
 clear hr HE hb hS S1 S2 S3 h61 hnl hk1
 have h1 := HR.out.at_
 have hf := HR.out.frozen 1
 go_enter Tryz.func175, Tryz.ntmps175
 go_wp2_with fail
 obtain ⟨W1, hW1⟩ : ∃ W, W = (w.setCell ⟨g, 1, none⟩ (.int .i64 ((k : Int) + 1))).alloc linkZ := ⟨_, rfl⟩
 have M1 : Moves w g ((k + 1 : Nat) : Int) W1 := by rw [hW1]; exact Moves.of_set.alloc _
 have hr1 := M1.rd HR.out
 have hz1 : W1.heap[w.heap.size]? = some linkZ := by
  have h := lnew (w.setCell ⟨g, 1, none⟩ (.int .i64 ((k : Int) + 1))) linkZ
  rw [← hW1, set1_size] at h
  exact h
 rw [← hW1]
 clear hW1 h1 hf hba hnew
 refine (CP1.out _ hr1).mono ?_
 rintro e w2 ⟨rfl, hm2⟩
 have M2 : Hid (Moves w g m2 w2) := M1.trans hm2 HR.out
 have hr2 := hm2.rd hr1
 have hz2 := hm2.kept hz1 (Ne.symm hne)
 have hB2 : Below w0.heap.size w0 w2 := M2.out.base HB.out hg
 clear CP1 hm2 M1 hr1 hz1
 have hS0 : ∀ w', Below w2.heap.size w2 w' → w'.cell? ⟨g, 0, none⟩ = some (.string p) := fun w' h => (hr2.below h).page
 have hS1 : ∀ w', Below w2.heap.size w2 w' → w'.cell? ⟨g, 1, none⟩ = some (.int .i64 (m2 : Int)) := fun w' h => (hr2.below h).at_
 have h22 : Below w2.heap.size w2 w2 := Below.refl _ _
 have hc0 := hr2.page
 have hc1 := hr2.at_
 go_wp2_with fail
 go_region_held3 (fun w' => Below w2.heap.size w2 w') (first | assumption | exact h22.drew) (first
  | (go_at_call 202; refine (CT.out _ (hB2.trans ((h22.drew).mono hB2.size))).mono ?_; rintro e w3 ⟨rfl, hb3⟩; have hbL : Below w2.heap.size w2 w3 := (h22.drew).trans hb3))
 have M3 : Hid (Moves w g m2 w3) := M2.out.then hbL
 have hr3 := hr2.below hbL
 have hz3 := lkept hz2 hbL
 clear M2 hr2 hz2 hB2 hS0 hS1 h22 hc0 hc1 hb3 hbL CT
 go_wp2_with fail
 refine (CP2.out _ hr3).mono ?_
 rintro e w4 ⟨rfl, hm4⟩
 have M4 : Hid (Moves w g m3 w4) := M3.out.trans hm4 HR.out
 have hr4 := hm4.rd hr3
 have hz4 := hm4.kept hz3 (Ne.symm hne)
 clear CP2 hm4 M3 hr3 hz3
 go_wp2_with fail
 refine (CS.out _ hr4).mono ?_
 rintro e w5 ⟨rfl, n5, rfl⟩
 obtain ⟨d0, d1, d2, df⟩ := lcells3 hz4
 clear CS
 go_wp2_with fail
 refine bodyPost_ret (v := .tuple #[.string NL, .agg #[.int .i64 0, .int .i64 0, .string ⟨#[]⟩], .bool false]) ?_ rfl ⟨rfl, ?_⟩
 ·rw [results_tct rfl]
  go_simp
 ·exact (((M4.out.drewN _).new _ _ (Nat.le_refl _) _).new _ _ (Nat.le_refl _) _).new _ _ (Nat.le_refl _) _
set_option maxHeartbeats 8000000 in
set_option maxRecDepth 100000 in
theorem attr_yes (w0 : World) (HE : LEnv w0) (g : Nat) (hg : w0.heap.size ≤ g) (p : ByteArray) (c : UInt8) (t : List UInt8) (hS : Suf p (c :: t)) (w : World) (hr : RdAt w g p (pos p (c :: t))) (hb : Below w0.heap.size w0 w) (hp : p.size ≤ 4000)
  (u : List UInt8) (hu : (t.dropWhile inAttr).dropWhile spB = 61 :: u) :
  Calls Tryz.prog 175 #[.pointer (some ⟨g, 0, none⟩)] w fun e w' => e = .returned (.tuple #[.string (lba (lowT (nameP (c :: t)))), .agg (lkv p.size ((valP (u.dropWhile spB)).1.length, (valP (u.dropWhile spB)).2.1)), .bool true]) ∧ Moves w g (pos p (valP (u.dropWhile spB)).2.2) w' := by
 have HR : Hid (RdAt w g p (pos p (c :: t))) := hr
 have hlt := hr.lt
 have hne : g ≠ w.heap.size := by omega
 have S1 := hS.tl
 have S2 := S1.dw inAttr
 have S3 := S2.dw spB
 rw [hu] at S3
 have S4 := S3.tl
 have S5 := S4.dw spB
 have CP1 : Hid (∀ W, RdAt W g p (pos p t) → Calls Tryz.prog 170 #[.pointer (some ⟨g, 0, none⟩), .func (Fn.func 201) #[] #[]] W fun e w' => e = .returned (.string (lba (t.takeWhile inAttr))) ∧ Moves W g (pos p (t.dropWhile inAttr)) w') := fun W h1 => pass_suf _ #[] inAttr (fun _ => True) g p t S1 W h1 trivial (ask_attr1 g) hp
 have CP2 : Hid (∀ W, RdAt W g p (pos p (t.dropWhile inAttr)) → Calls Tryz.prog 170 #[.pointer (some ⟨g, 0, none⟩), .func (Fn.func 172) #[] #[]] W fun e w' => e = .returned (.string (lba ((t.dropWhile inAttr).takeWhile spB))) ∧ Moves W g (pos p (61 :: u)) w') := fun W h1 => by
  have := pass_suf _ #[] spB (fun _ => True) g p _ S2 W h1 trivial (ask_space g) hp
  rw [hu] at this
  exact this
 have CS : Hid (∀ W, RdAt W g p (pos p (61 :: u)) → Calls Tryz.prog 174 #[.pointer (some ⟨g, 0, none⟩), .int .u8 61] W fun e w' => e = .returned (.bool true) ∧ ∃ m, w' = W.drewN m) := fun W hW => sees_suf g p _ S3 61 61 rfl true rfl W hW
 have CP3 : Hid (∀ W, RdAt W g p (pos p u) → Calls Tryz.prog 170 #[.pointer (some ⟨g, 0, none⟩), .func (Fn.func 172) #[] #[]] W fun e w' => e = .returned (.string (lba (u.takeWhile spB))) ∧ Moves W g (pos p (u.dropWhile spB)) w') := fun W h1 => pass_suf _ #[] spB (fun _ => True) g p _ S4 W h1 trivial (ask_space g) hp
 have CV : Hid (∀ W, RdAt W g p (pos p (u.dropWhile spB)) → Below w0.heap.size w0 W → Calls Tryz.prog 203 #[.pointer (some ⟨g, 0, none⟩)] W fun e w' => e = .returned (.agg (lkv p.size ((valP (u.dropWhile spB)).1.length, (valP (u.dropWhile spB)).2.1))) ∧ Moves W g (pos p (valP (u.dropWhile spB)).2.2) w') := fun W h1 h2 => value_any w0 HE g hg p _ S5 W h1 h2 hp
 have hnl : (nameP (c :: t)).length ≤ 4000 := by
  rw [name_cons, List.length_cons]
  have := (List.takeWhile_prefix (l := t) inAttr).length_le
  have := hS.len
  simp only [List.length_cons] at this
  omega
 have CT : Hid (∀ W, Below w0.heap.size w0 W → Calls Tryz.prog 202 #[.string (lba (nameP (c :: t)))] W fun e w' => e = .returned (.string (lba (lowT (nameP (c :: t))))) ∧ Below W.heap.size W w') := fun W hW => Tryz.strings_ToLower_any (lba (nameP (c :: t))) W (by rw [lba_size]; omega) (HE W hW).cv (HE W hW).u8
 have HB : Hid (Below w0.heap.size w0 w) := hb
 have hx := name_ext hS
 have hk1 : pos p t = pos p (c :: t) + 1 := pos_plus hS (a := [c]) rfl
 have hk2 : pos p (c :: t) ≤ pos p (t.dropWhile inAttr) := by
  have h1 := pos_plus S1 (tw_dw inAttr t)
  omega
 have hk3 := pos_le p (t.dropWhile inAttr)
 have hba : Below w.heap.size w (w.alloc linkZ) := (Below.refl _ _).alloc (Nat.le_refl _) _
 have hnew := lnew w linkZ
 rw [hk1] at CP1
 have hk5 : pos p u = pos p (61 :: u) + 1 := pos_plus S3 (a := [61]) rfl
 have hk6 := pos_le p (61 :: u)
 rw [hk5] at CP3
 obtain ⟨V0, V1, V2, hV⟩ : ∃ (V0 V1 : Nat) (V2 : ByteArray), lkv p.size ((valP (u.dropWhile spB)).1.length, (valP (u.dropWhile spB)).2.1) = #[.int .i64 (V0 : Int), .int .i64 (V1 : Int), .string V2] := ⟨_, _, _, rfl⟩
 rw [hV] at CV
 rw [hV]
 generalize pos p (valP (u.dropWhile spB)).2.2 = m6 at *
 generalize pos p (u.dropWhile spB) = m5 at *
 generalize pos p (61 :: u) = m3 at *
 generalize lba (lowT (nameP (c :: t))) = NL at *
 generalize lba (nameP (c :: t)) = NM at *
 generalize pos p (t.dropWhile inAttr) = m2 at *
 generalize pos p (c :: t) = k at *
 have hki : (k : Int) ≤ (m2 : Int) := by omega
 have hkj : (m2 : Int) ≤ (p.size : Int) := by omega
 have hwr : IntKind.i64.wrap ((k : Int) + 1) = ((k + 1 : Nat) : Int) := by rw [IntKind.wrap_i64]; omega
 have hwr3 : IntKind.i64.wrap ((m3 : Int) + 1) = ((m3 + 1 : Nat) : Int) := by rw [IntKind.wrap_i64]; omega
 clear hr HE hb hS S1 S2 S3 S4 S5 hu hnl hk1 hk5 hV
 have h1 := HR.out.at_
 have hf := HR.out.frozen 1
 go_enter Tryz.func175, Tryz.ntmps175
 go_wp2_with fail
 obtain ⟨W1, hW1⟩ : ∃ W, W = (w.setCell ⟨g, 1, none⟩ (.int .i64 ((k : Int) + 1))).alloc linkZ := ⟨_, rfl⟩
 have M1 : Moves w g ((k + 1 : Nat) : Int) W1 := by rw [hW1]; exact Moves.of_set.alloc _
 have hr1 := M1.rd HR.out
 have hz1 : W1.heap[w.heap.size]? = some linkZ := by
  have h := lnew (w.setCell ⟨g, 1, none⟩ (.int .i64 ((k : Int) + 1))) linkZ
  rw [← hW1, set1_size] at h
  exact h
 rw [← hW1]
 clear hW1 h1 hf hba hnew
 refine (CP1.out _ hr1).mono ?_
 rintro e w2 ⟨rfl, hm2⟩
 have M2 : Hid (Moves w g m2 w2) := M1.trans hm2 HR.out
 have hr2 := hm2.rd hr1
 have hz2 := hm2.kept hz1 (Ne.symm hne)
 have hB2 : Below w0.heap.size w0 w2 := M2.out.base HB.out hg
 clear CP1 hm2 M1 hr1 hz1
 have hS0 : ∀ w', Below w2.heap.size w2 w' → w'.cell? ⟨g, 0, none⟩ = some (.string p) := fun w' h => (hr2.below h).page
 have hS1 : ∀ w', Below w2.heap.size w2 w' → w'.cell? ⟨g, 1, none⟩ = some (.int .i64 (m2 : Int)) := fun w' h => (hr2.below h).at_
 have h22 : Below w2.heap.size w2 w2 := Below.refl _ _
 have hc0 := hr2.page
 have hc1 := hr2.at_
 go_wp2_with fail
 go_region_held3 (fun w' => Below w2.heap.size w2 w') (first | assumption | exact h22.drew) (first
  | (go_at_call 202; refine (CT.out _ (hB2.trans ((h22.drew).mono hB2.size))).mono ?_; rintro e w3 ⟨rfl, hb3⟩; have hbL : Below w2.heap.size w2 w3 := (h22.drew).trans hb3))
 have M3 : Hid (Moves w g m2 w3) := M2.out.then hbL
 have hr3 := hr2.below hbL
 have hz3 := lkept hz2 hbL
 clear M2 hr2 hz2 hB2 hS0 hS1 h22 hc0 hc1 hb3 hbL CT
 go_wp2_with fail
 refine (CP2.out _ hr3).mono ?_
 rintro e w4 ⟨rfl, hm4⟩
 have M4 : Hid (Moves w g m3 w4) := M3.out.trans hm4 HR.out
 have hr4 := hm4.rd hr3
 have hz4 := hm4.kept hz3 (Ne.symm hne)
 clear CP2 hm4 M3 hr3 hz3
 go_wp2_with fail
 refine (CS.out _ hr4).mono ?_
 rintro e w5 ⟨rfl, n5, rfl⟩
 have h1 := hr4.at_
 have hf := hr4.frozen 1
 clear CS
 go_wp2_with fail
 obtain ⟨W5, hW5⟩ : ∃ W, W = (w4.drewN n5).setCell ⟨g, 1, none⟩ (.int .i64 ((m3 : Int) + 1)) := ⟨_, rfl⟩
 have M45 : Moves w4 g ((m3 + 1 : Nat) : Int) W5 := by rw [hW5]; exact ((Moves.still hr4).drewN _).trans Moves.of_set hr4
 have hr5 := M45.rd hr4
 have hz5 := M45.kept hz4 (Ne.symm hne)
 have M5 : Hid (Moves w g ((m3 + 1 : Nat) : Int) W5) := M4.out.trans M45 HR.out
 rw [← hW5]
 clear hW5 M45 M4 h1 hf hr4 hz4
 refine (CP3.out _ hr5).mono ?_
 rintro e w6 ⟨rfl, hm6⟩
 have M6 : Hid (Moves w g m5 w6) := M5.out.trans hm6 HR.out
 have hr6 := hm6.rd hr5
 have hz6 := hm6.kept hz5 (Ne.symm hne)
 have hB6 : Below w0.heap.size w0 w6 := M6.out.base HB.out hg
 clear CP3 hm6 M5 hr5 hz5
 go_wp2_with fail
 refine (CV.out _ hr6 hB6).mono ?_
 rintro e w7 ⟨rfl, hm7⟩
 have M7 : Hid (Moves w g m6 w7) := M6.out.trans hm7 HR.out
 have hz7 := hm7.kept hz6 (Ne.symm hne)
 obtain ⟨d0, d1, d2, df⟩ := lcells3 hz7
 clear CV hm7 M6 hr6 hz6 hB6 hz7
 go_wp2_with fail
 refine bodyPost_ret (v := .tuple #[.string NL, .agg #[.int .i64 (V0 : Int), .int .i64 (V1 : Int), .string V2], .bool true]) ?_ rfl ⟨rfl, ?_⟩
 ·rw [results_tct rfl]
  go_simp
 ·exact ((M7.out.new _ _ (Nat.le_refl _) _).new _ _ (Nat.le_refl _) _).new _ _ (Nat.le_refl _) _
theorem attr_any (w0 : World) (HE : LEnv w0) (g : Nat) (hg : w0.heap.size ≤ g) (p : ByteArray) (c : UInt8) (t : List UInt8) (hS : Suf p (c :: t)) (w : World) (hr : RdAt w g p (pos p (c :: t))) (hb : Below w0.heap.size w0 w) (hp : p.size ≤ 4000) :
  Calls Tryz.prog 175 #[.pointer (some ⟨g, 0, none⟩)] w fun e w' => e = .returned (.tuple #[.string (lba (lowT (nameP (c :: t)))), .agg (lkO p.size (attrP (c :: t)).1), .bool (attrP (c :: t)).1.isSome]) ∧ Moves w g (pos p (attrP (c :: t)).2) w' := by
 rw [attr_cons]
 cases hd : (t.dropWhile inAttr).dropWhile spB with
 | nil =>
  have := attr_no w0 HE g hg p c t hS w hr hb hp (by rw [hd]; rfl)
  rw [hd] at this
  exact this
 | cons d u =>
  by_cases h61 : d = 61
  ·subst h61
   have := attr_yes w0 HE g hg p c t hS w hr hb hp u hd
   exact this
  ·have := attr_no w0 HE g hg p c t hS w hr hb hp (by rw [hd]; simp [h61])
   rw [hd] at this
   have e : behP (d :: u) = (none, d :: u) := by simp only [behP]; rw [if_neg h61]
   rw [e]
   exact this
theorem beh_suf (s : List UInt8) : (behP s).2 <:+ s := by
 cases s with
 | nil => exact List.nil_suffix
 | cons c t =>
  simp only [behP]
  split
  ·exact ((val_suf _).trans (List.dropWhile_suffix _)).trans (List.suffix_cons c t)
  ·exact List.suffix_refl _
theorem attr_suf (s : List UInt8) : (attrP s).2 <:+ s := (((beh_suf _).trans (List.dropWhile_suffix _)).trans (List.dropWhile_suffix _)).trans (List.drop_suffix 1 s)
end Go.Proofs.YtbbfcbodhmeanaaGreatDoor



namespace Go.Proofs.YtbbfcbodhmeanaaGreatDoor
theorem lev_up : ∀ (f : Nat) (p : PT), lev f p = true → lev (f + 1) p = true
 | 0, p, h => by rw [lev] at h; cases h
 | f + 1, p, h => by
  rw [lev_succ, List.all_eq_true] at h ⊢
  exact fun k hk => lev_up f k (h k hk)
theorem first_alone (ok : Nat → PT → Bool) (hok : ∀ k p, ok k p.alone = ok k p) : ∀ (l : List PT) (k : Nat), firstP ok k (l.map PT.alone) = firstP ok k l
 | [], _ => rfl
 | p :: l, k => by
  rw [List.map_cons, firstP, firstP, first_alone ok hok l, hok]
  rfl
theorem findW_alone (l : List PT) (wh : List (List UInt8)) (t : List UInt8) : findW (l.map PT.alone) wh t = findW l wh t := by
 unfold findW
 rw [first_alone _ (fun _ _ => rfl), first_alone _ (fun _ _ => rfl)]
theorem goalOf_alone (l : List PT) (wh : List (List UInt8)) : goalOf (l.map PT.alone) wh = goalOf l wh := by
 funext i n x
 unfold goalOf
 rw [findW_alone]
theorem goalsGo_alone (low : List UInt8 → List UInt8) (l : List PT) (wh : List (List UInt8)) : ∀ (r : List PT) (k : Nat) (acc : List GL), goalsGo low (l.map PT.alone) wh k (r.map PT.alone) acc = goalsGo low l wh k r acc
 | [], _, _ => by rw [List.map_nil, goalsGo, goalsGo]
 | p :: r, k, acc => by
  rw [List.map_cons, goalsGo, goalsGo, goalOf_alone]
  have e1 : p.alone.ty = p.ty := rfl
  have e2 : p.alone.body = p.body := rfl
  rw [e1, e2, goalsGo_alone low l wh r]
  cases findP low p.body with
  | none => rfl
  | some ls => simp only [goalsGo_alone low l wh r]
theorem places_flat (p : PT) (h : (placesP p).1 = 0) : lev 4 p = true ∧ (flatP 4 p).length ≤ 12 ∧ (placesP p).2.map (·.1) = flatP 4 p := by
 have hs := places_spec p
 unfold placesP at h ⊢
 by_cases hl : lev 3 p = true ∧ (tree 4 p).length ≤ 12
 ·rw [if_pos hl] at hs
  rw [hs] at h ⊢
  simp only at h ⊢
  by_cases hb : firstBad ((tree 4 p).map (abs 0 (-1))) = 0
  ·rw [if_pos hb]
   refine ⟨lev_up 3 p hl.1, by rw [← tree_flat, List.length_map]; exact hl.2, ?_⟩
   rw [← tree_flat, List.map_map]
   rfl
  ·rw [if_neg hb] at h
   exact absurd h hb
 ·rw [if_neg hl] at hs
  rw [hs] at h
  cases h
end Go.Proofs.YtbbfcbodhmeanaaGreatDoor



namespace Go.Proofs.YtbbfcbodhmeanaaGreatDoor
def cssB : ByteArray := ⟨#[116, 101, 120, 116, 47, 99, 115, 115]⟩
def cssT (h : Int) : PT := ⟨cssB, ⟨#[]⟩, ⟨#[]⟩, ⟨#[]⟩, h, [], []⟩
def setH (h : Int) (k : PT) : PT := if manyS k.ty.data.toList = true then k else { k with how := h }
def moreT (p : PT) (h : Int) : PT := { p with kids := p.kids.map (setH h) ++ [cssT h] }
def keyP (p : PT) : PT := ⟨p.ty, ⟨#[]⟩, p.id, p.loc, 0, p.body, []⟩
theorem setH_is (h : Int) (k : PT) : (setH h k).ty = k.ty ∧ (setH h k).cs = k.cs ∧ (setH h k).id = k.id ∧ (setH h k).loc = k.loc ∧ (setH h k).body = k.body ∧ (setH h k).kids = k.kids := by
 unfold setH
 split <;> exact ⟨rfl, rfl, rfl, rfl, rfl, rfl⟩
theorem setH_key (h : Int) (k : PT) : keyP (setH h k) = keyP k := by
 obtain ⟨h1, h2, h3, h4, h5, h6⟩ := setH_is h k
 unfold keyP
 rw [h1, h3, h4, h5]
theorem findW_key (l : List PT) (wh : List (List UInt8)) (t : List UInt8) : findW (l.map keyP) wh t = findW l wh t := by
 have first_key : ∀ (ok : Nat → PT → Bool) (hok : ∀ k p, ok k (keyP p) = ok k p) (l : List PT) (k : Nat), firstP ok k (l.map keyP) = firstP ok k l := by
  intro ok hok l
  induction l with
  | nil => intro k; rfl
  | cons p l ih =>
   intro k
   rw [List.map_cons, firstP, firstP, ih, hok]
   rfl
 unfold findW
 rw [first_key _ (fun _ _ => rfl), first_key _ (fun _ _ => rfl)]
theorem goalOf_key (l : List PT) (wh : List (List UInt8)) : goalOf (l.map keyP) wh = goalOf l wh := by
 funext i n x
 unfold goalOf
 rw [findW_key]
theorem goalsGo_key (low : List UInt8 → List UInt8) (l : List PT) (wh : List (List UInt8)) : ∀ (r : List PT) (k : Nat) (acc : List GL), goalsGo low (l.map keyP) wh k (r.map keyP) acc = goalsGo low l wh k r acc
 | [], _, _ => by rw [List.map_nil, goalsGo, goalsGo]
 | p :: r, k, acc => by
  rw [List.map_cons, goalsGo, goalsGo, goalOf_key]
  have e1 : (keyP p).ty = p.ty := rfl
  have e2 : (keyP p).body = p.body := rfl
  rw [e1, e2, goalsGo_key low l wh r]
  cases findP low p.body with
  | none => rfl
  | some ls => simp only [goalsGo_key low l wh r]
theorem flat_setH (f : Nat) (h : Int) (k : PT) : (flatP f (setH h k)).map keyP = (flatP f k).map keyP := by
 cases f with
 | zero => rfl
 | succ f => rw [flatP_succ, flatP_succ, List.map_cons, List.map_cons, setH_key, (setH_is h k).2.2.2.2.2]
theorem flat_more (p : PT) (h : Int) : (flatP 4 (moreT p h)).map keyP = (flatP 4 p).map keyP ++ [keyP (cssT h)] := by
 rw [flatP_succ, flatP_succ, List.map_cons, List.map_cons]
 have e : (moreT p h).kids = p.kids.map (setH h) ++ [cssT h] := rfl
 rw [e, List.flatMap_append, List.map_append, List.map_flatMap, List.map_flatMap, List.cons_append]
 congr 1
 congr 1
 rw [List.flatMap_map, List.map_flatMap]
 congr 1
 funext k
 exact flat_setH 3 h k
theorem me_setH (ah : List UInt8) (h : Int) (k : PT) : meR ah (setH h k) = meR ah k := by
 unfold meR
 rw [(setH_is h k).2.2.2.1]
theorem where_setH (f : Nat) (h : Int) (k : PT) (ah : List UInt8) : whereR f (setH h k) ah = whereR f k ah := by
 cases f with
 | zero => rfl
 | succ f => rw [whereR_succ, whereR_succ, me_setH, (setH_is h k).2.2.2.2.2]
theorem where_more (p : PT) (h : Int) : ∃ x, whereR 4 (moreT p h) [] = whereR 4 p [] ++ [x] := by
 refine ⟨meR (meR [] p) (cssT h), ?_⟩
 rw [whereR_succ, whereR_succ]
 have e : (moreT p h).kids = p.kids.map (setH h) ++ [cssT h] := rfl
 have e2 : meR [] (moreT p h) = meR [] p := rfl
 rw [e, e2, List.flatMap_append, List.cons_append, List.flatMap_map]
 congr 2
 congr 1
 funext k
 exact where_setH 3 h k _
theorem first_snoc (c : PT) : ∀ (R : List PT) (k : Nat) (ok ok' : Nat → PT → Bool), (∀ i p, i < k + R.length → ok' i p = ok i p) → (∀ i, ok' i c = false) → firstP ok' k (R ++ [c]) = firstP ok k R
 | [], k, ok, ok', _, hc => by
  rw [List.nil_append, firstP, firstP, firstP, if_neg (by rw [hc]; simp)]
 | p :: R, k, ok, ok', hk, hc => by
  rw [List.cons_append, firstP, firstP, hk k p (by rw [List.length_cons]; omega), first_snoc c R (k + 1) ok ok' (fun i q hi => hk i q (by rw [List.length_cons]; omega)) hc]
theorem getD_left (wh : List (List UInt8)) (x : List UInt8) (i : Nat) (h : i < wh.length) : (wh ++ [x]).getD i [] = wh.getD i [] := by
 rw [List.getD_eq_getElem?_getD, List.getD_eq_getElem?_getD, List.getElem?_append_left h]
theorem findW_snoc (L : List PT) (wh : List (List UInt8)) (x : List UInt8) (c : PT) (hl : wh.length = L.length) (hid : c.id.data.toList = []) (hloc : c.loc.data.toList = []) (t : List UInt8) : findW (L ++ [c]) (wh ++ [x]) t = findW L wh t := by
 unfold findW
 split
 ·rfl
 ·split
  ·exact first_snoc c L 0 _ _ (fun _ _ _ => rfl) (fun i => by unfold okID; rw [hid]; rfl)
  ·refine first_snoc c L 0 _ _ (fun i p hi => ?_) (fun i => by unfold okLoc; rw [hloc]; rfl)
   unfold okLoc
   rw [getD_left wh x i (by omega)]
theorem fromW_snoc (wh : List (List UInt8)) (x : List UInt8) (i : Nat) (h : i < wh.length) : fromW (wh ++ [x]) (i : Int) = fromW wh (i : Int) := by
 unfold fromW
 rw [Int.toNat_natCast, getD_left wh x i h]
theorem goals_snoc1 (low : List UInt8 → List UInt8) (L : List PT) (wh : List (List UInt8)) (x : List UInt8) (c : PT) (hl : wh.length = L.length) (hid : c.id.data.toList = []) (hloc : c.loc.data.toList = []) (hty : c.ty.data.toList ≠ htmlS) :
  ∀ (R : List PT) (k : Nat) (acc : List GL), k + R.length = L.length → goalsGo low (L ++ [c]) (wh ++ [x]) k (R ++ [c]) acc = goalsGo low L wh k R acc
 | [], k, acc, _ => by
  have e1 : goalsGo low (L ++ [c]) (wh ++ [x]) k [c] acc = goalsGo low (L ++ [c]) (wh ++ [x]) (k + 1) [] acc := by conv => lhs; rw [goalsGo, if_neg hty]
  rw [List.nil_append, e1, goalsGo, goalsGo]
 | p :: R, k, acc, hk => by
  rw [List.length_cons] at hk
  have e : goalOf (L ++ [c]) (wh ++ [x]) k = goalOf L wh k := by
   funext n y
   unfold goalOf
   rw [findW_snoc L wh x c hl hid hloc, fromW_snoc wh x k (by omega)]
  rw [List.cons_append, goalsGo, goalsGo, e, goals_snoc1 low L wh x c hl hid hloc hty R (k + 1) acc (by omega)]
  cases findP low p.body with
  | none => rfl
  | some ls => simp only [goals_snoc1 low L wh x c hl hid hloc hty R (k + 1) _ (show k + 1 + R.length = L.length by omega)]
theorem goals_more (low : List UInt8 → List UInt8) (p : PT) (h : Int) (hl : (whereR 4 p []).length = (flatP 4 p).length) : goalsGo low (flatP 4 (moreT p h)) (whereR 4 (moreT p h) []) 0 (flatP 4 (moreT p h)) [] = goalsGo low (flatP 4 p) (whereR 4 p []) 0 (flatP 4 p) [] := by
 obtain ⟨x, hx⟩ := where_more p h
 rw [← goalsGo_key, flat_more, hx, goals_snoc1 low _ _ x (keyP (cssT h)) (by rw [hl, List.length_map]) rfl rfl (show cssB.data.toList ≠ htmlS by decide) _ 0 [] (by rw [Nat.zero_add]), goalsGo_key]
theorem bad_none : ∀ (l : List (PT × Int)), (∀ x ∈ l, chkA x.1 = 0) → firstBad l = 0
 | [], _ => rfl
 | x :: l, h => by rw [firstBad, if_pos (h x (by simp))]; exact bad_none l fun y hy => h y (by simp [hy])
theorem flat_chk (p : PT) (h : (placesP p).1 = 0) : ∀ x ∈ flatP 4 p, chkA x = 0 := by
 have hp := (places_flat p h).2.2
 intro x hx
 rw [← hp, List.mem_map] at hx
 obtain ⟨y, hy, rfl⟩ := hx
 refine bad_each (placesP p).2 ?_ y hy
 unfold placesP at h ⊢
 cases hq : put 4 [] p 1 (-1) with
 | none => rw [hq] at h; cases h
 | some l =>
  rw [hq] at h
  simp only at h ⊢
  split
  ·assumption
  ·rfl
theorem chk_css (h : Int) (h0 : 0 ≤ h) (h2 : h ≤ 2) : chkA (cssT h) = 0 := by
 have e1 : textsOk (cssT h) = true := rfl
 have e2 : formedP (cssT h) = true := rfl
 have e3 : (cssT h).how = h := rfl
 have e4 : (cssT h).body.length = 0 := rfl
 unfold chkA
 rw [e1, e2, e3, e4, if_neg (by simp), if_neg (by omega), if_neg (by omega), if_neg (by simp)]
theorem chk_setH (k : PT) (h : Int) (h0 : 0 ≤ h) (h2 : h ≤ 2) (hk : chkA k = 0) : chkA (setH h k) = 0 := by
 unfold setH
 split
 ·exact hk
 ·rename_i hm
  have e1 : textsOk { k with how := h } = textsOk k := rfl
  have hm' : manyS k.ty.data.toList = false := by cases hx : manyS k.ty.data.toList <;> simp_all
  have e2 : formedP { k with how := h } = formedP k := by unfold formedP; simp only [hm']; rfl
  unfold chkA at hk ⊢
  rw [e1, e2]
  simp only
  split at hk
  ·cases hk
  ·rename_i ht
   rw [if_neg ht, if_neg (by omega)]
   split at hk
   ·cases hk
   ·exact hk
theorem chk_more (p : PT) (h : Int) (hm : manyS p.ty.data.toList = true) (hk : chkA p = 0) : chkA (moreT p h) = 0 := by
 have e1 : textsOk (moreT p h) = textsOk p := rfl
 have e2 : formedP p = true → formedP (moreT p h) = true := by
  unfold formedP moreT
  simp only [hm, if_true]
  intro hx
  simp only [Bool.and_eq_true] at hx ⊢
  refine ⟨⟨⟨?_, hx.1.1.2⟩, hx.1.2⟩, hx.2⟩
  cases p.kids.map (setH h) <;> rfl
 have e3 : (moreT p h).how = p.how := rfl
 have e4 : (moreT p h).body = p.body := rfl
 unfold chkA at hk ⊢
 rw [e1, e3, e4]
 split at hk
 ·cases hk
 ·rename_i ht
  rw [if_neg ht]
  split at hk
  ·cases hk
  ·rename_i hh
   rw [if_neg hh]
   split at hk
   ·cases hk
   ·rename_i hb
    rw [if_neg hb]
    split at hk
    ·cases hk
    ·rename_i hf
     rw [if_neg (by rw [e2 (by cases hx : formedP p <;> simp_all)]; simp)]
theorem places_more (p : PT) (h : Int) (h0 : 0 ≤ h) (h2 : h ≤ 2) (hm : manyS p.ty.data.toList = true) (hok : (placesP p).1 = 0) : (placesP (moreT p h)).1 = 0 ∨ (placesP (moreT p h)).1 = 2 := by
 have hc := flat_chk p hok
 have hall : ∀ x ∈ flatP 4 (moreT p h), chkA x = 0 := by
  intro x hx
  rw [flatP_succ, List.mem_cons] at hx
  rcases hx with rfl | hx
  ·exact chk_more p h hm (hc p (by rw [flatP_succ]; simp))
  ·obtain ⟨k, hk, hx⟩ := List.mem_flatMap.1 hx
   have hk' : k ∈ p.kids.map (setH h) ++ [cssT h] := hk
   rcases List.mem_append.1 hk' with hk1 | hk1
   ·obtain ⟨y, hy, rfl⟩ := List.mem_map.1 hk1
    have hyp : ∀ z ∈ flatP 3 y, chkA z = 0 := fun z hz => hc z (by rw [flatP_succ]; exact List.mem_cons_of_mem _ (List.mem_flatMap.2 ⟨y, hy, hz⟩))
    rw [flatP_succ, List.mem_cons, (setH_is h y).2.2.2.2.2] at hx
    rcases hx with rfl | hx
    ·exact chk_setH y h h0 h2 (hyp y (by rw [flatP_succ]; simp))
    ·exact hyp x (by rw [flatP_succ]; exact List.mem_cons_of_mem _ hx)
   ·obtain rfl : k = cssT h := by simpa using hk1
    rw [flatP_succ, List.mem_cons] at hx
    rcases hx with rfl | hx
    ·exact chk_css h h0 h2
    ·simp [cssT] at hx
 have hs := places_spec (moreT p h)
 unfold placesP
 split at hs
 ·rw [hs]
  simp only
  rw [if_pos]
  ·exact .inl rfl
  ·refine bad_none _ fun y hy => hall y.1 ?_
   obtain ⟨z, hz, rfl⟩ := List.mem_map.1 hy
   rw [← tree_flat]
   exact List.mem_map.2 ⟨z, hz, rfl⟩
 ·rw [hs]
  exact .inr rfl
theorem goals_low (p : PT) (h : (placesP p).1 = 0) : goalsGo lowT ((placesP p).2.map fun x => x.1.alone) (whereP (placesP p).2) 0 ((placesP p).2.map fun x => x.1.alone) [] = goalsGo lowT (flatP 4 p) (whereR 4 p []) 0 (flatP 4 p) [] := by
 have e : ((placesP p).2.map fun x => x.1.alone) = (flatP 4 p).map PT.alone := by
  rw [← (places_flat p h).2.2, List.map_map]
  rfl
 rw [e, where_places p h, goalsGo_alone]
theorem goals_even (p : PT) (h : Int) (hok : (placesP p).1 = 0) (hok2 : (placesP (moreT p h)).1 = 0) : goalsGo lowT ((placesP (moreT p h)).2.map fun x => x.1.alone) (whereP (placesP (moreT p h)).2) 0 ((placesP (moreT p h)).2.map fun x => x.1.alone) [] = goalsGo lowT ((placesP p).2.map fun x => x.1.alone) (whereP (placesP p).2) 0 ((placesP p).2.map fun x => x.1.alone) [] := by
 rw [goals_low p hok, goals_low (moreT p h) hok2]
 exact goals_more lowT p h (by rw [← where_places p hok, whereP_length, ← (places_flat p hok).2.2, List.length_map])
end Go.Proofs.YtbbfcbodhmeanaaGreatDoor

