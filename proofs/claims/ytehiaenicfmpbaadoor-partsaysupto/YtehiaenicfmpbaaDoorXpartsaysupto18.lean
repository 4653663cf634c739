/- header.small, setting, param: what the plain functions say; nothing that was there is changed. Conditions: the texts are no longer than a value. -/
import Derived.Test.YtehiaenicfmpbaaDoorXpartsaysupto16
import Derived.Test.YtehiaenicfmpbaaDoorXpartsaysupto17
import Derived.Lib.Fold
namespace Go.Proofs.YtehiaenicfmpbaaDoor
open Go.RowKit

theorem results_tmp4 {fn : Func} {t u v x : Tmp} (h : fn.results = #[.tmp t, .tmp u, .tmp v, .tmp x]) (tmps : Array Value) (P : Program) (w : World) :
    (results fn tmps).run P w = .ok (.tuple #[tmps.getD t undef, tmps.getD u undef, tmps.getD v undef, tmps.getD x undef]) w := by
  simp [results, h]
theorem results_cell4 {fn : Func} {p u v x : Tmp} {ty : TypeId} (h : fn.results = #[.cell p ty, .tmp u, .tmp v, .tmp x]) (tmps : Array Value) (P : Program) (w : World) :
    (results fn tmps).run P w =
      ((asAddr (tmps.getD p undef)).run P w).andThen fun a w₁ => ((loadVar ty a).run P w₁).andThen fun y w₂ => .ok (.tuple #[y, tmps.getD u undef, tmps.getD v undef, tmps.getD x undef]) w₂ := by
  simp only [results, h]
  simp [Sem.run_bind, Result.andThen]

/-- A list of bytes as a text. -/
def ba (l : List UInt8) : ByteArray := ⟨l.toArray⟩
theorem ba_data (l : List UInt8) : (ba l).data.toList = l := rfl
theorem ba_size (l : List UInt8) : (ba l).size = l.length := by rw [Lib.size_eq, ba_data]
theorem ba_self (s : ByteArray) : ba s.data.toList = s := rfl
theorem ba_isEmpty (l : List UInt8) : (ba l).toList.isEmpty = l.isEmpty := by rw [ByteArray.toList_eq, ba_data]

theorem cutP_any (d : UInt8) (l : List UInt8) (w : World) (hs : l.length ≤ 1000000000) :
    Calls Tryd.prog 80 #[.string (ba l), .string ⟨#[d]⟩] w fun e w' => e = .returned (.tuple #[.string (ba (cutP d l).1), .string (ba (cutP d l).2.1), .bool (cutP d l).2.2]) ∧ Below w.heap.size w w' := by
  cases h : cutB d l with
  | none =>
    rw [cutP_none h]
    exact cut_none d (ba l) w h
  | some x =>
    obtain ⟨a, b⟩ := x
    rw [cutP_some h]
    exact cut_some d (ba l) (ba a) (ba b) w (by rw [ba_size]; exact hs) h

theorem small_any (l : List UInt8) (w : World) (hs : l.length ≤ 1000000000) (ha : ∀ c ∈ l, c.toNat < 128) :
    Calls Tryd.prog 94 #[.string (ba l)] w fun e w' => e = .returned (.string (ba (small8 l))) ∧ Below w.heap.size w w' := by
  have HC : Hid (∀ w, Calls Tryd.prog 45 #[.string (ba l)] w fun e w' => e = .returned (.string (ba (small8 l))) ∧ Below w.heap.size w w') := fun w =>
    Tryd.strings_ToLower_ascii (ba l) w (by rw [ba_size]; omega) (fun j b hb => ha b (List.mem_of_getElem? hb))
  clear ha
  go_enter Tryd.func94, Tryd.ntmps94
  go_wp2_with fail
  refine (HC.out _).mono ?_
  rintro e w1 ⟨rfl, hb⟩
  clear HC
  go_wp2
  go_ret
  exact ⟨rfl, hb⟩

set_option maxHeartbeats 2000000 in
theorem setting_plain (l : List UInt8) (w : World) (hs : l.length ≤ 100000) (hh : l.head? ≠ some 34) :
    Calls Tryd.prog 145 #[.string (ba l)] w fun e w' => e = .returned (.tuple #[.string (ba (setS l).1), .string (ba (setS l).2.1), .bool (setS l).2.2.1, .bool (setS l).2.2.2]) ∧ Below w.heap.size w w' := by
  have HN : Hid (setS l = (dropEnd isSp (cutP 59 l).1, (cutP 59 l).2.1, (cutP 59 l).2.2, tokenS (dropEnd isSp (cutP 59 l).1))) := by unfold Hid setS; rw [if_neg hh]
  have C1 : Hid (∀ w, Calls Tryd.prog 180 #[.string (ba l), .string ⟨#[34]⟩] w fun e w' => e = .returned (.tuple #[.string (ba l), .bool false]) ∧ w' = w) := fun w => cutPre_no 34 (ba l) w hh
  have C2 : Hid (∀ w, Calls Tryd.prog 80 #[.string (ba l), .string ⟨#[59]⟩] w fun e w' => e = .returned (.tuple #[.string (ba (cutP 59 l).1), .string (ba (cutP 59 l).2.1), .bool (cutP 59 l).2.2]) ∧ Below w.heap.size w w') := fun w => cutP_any 59 l w (by omega)
  have hl := (cutP_length 59 l).1
  have C3 : Hid (∀ w, Calls Tryd.prog 52 #[.string (ba (cutP 59 l).1), .string ⟨#[32]⟩] w fun e w' => e = .returned (.string (ba (dropEnd isSp (cutP 59 l).1))) ∧ w' = w) := fun w => trimRSp_any _ _ rfl w (by rw [ba_size]; omega)
  have hl2 := dropEnd_length isSp (cutP 59 l).1
  have C4 : Hid (∀ w, Calls Tryd.prog 34 #[.string (ba (dropEnd isSp (cutP 59 l).1))] w fun e w' => e = .returned (.bool (tokenS (dropEnd isSp (cutP 59 l).1))) ∧ w' = w) := fun w => htok_any _ w (by rw [ba_size]; unfold maxLen; omega)
  clear hl hl2 hh
  generalize dropEnd isSp (cutP 59 l).1 = V at *
  generalize tokenS V = ok at *
  generalize cutP 59 l = x9 at *
  obtain ⟨a, r, m⟩ := x9
  simp only at *
  have HN' := HN.out
  rw [HN']
  clear HN HN'
  simp only
  generalize ba l = s at *
  generalize ba a = sa at *
  generalize ba r = sr at *
  generalize ba V = sv at *
  go_enter Tryd.func145, Tryd.ntmps145
  go_wp2_with fail
  refine (C1.out _).mono ?_
  rintro e w1 ⟨rfl, hw'⟩
  have hw'' := hw'.symm
  subst hw''
  clear C1
  go_wp2_with fail
  refine (C2.out _).mono ?_
  rintro e w2 ⟨rfl, hb⟩
  clear C2
  go_wp2_with fail
  refine (C3.out _).mono ?_
  rintro e w1 ⟨rfl, hw'⟩
  have hw'' := hw'.symm
  subst hw''
  clear C3
  go_wp2_with fail
  refine (C4.out _).mono ?_
  rintro e w1 ⟨rfl, hw'⟩
  have hw'' := hw'.symm
  subst hw''
  clear C4
  go_wp2
  (try simp only [Exit.inBlock, Exit.then])
  refine bodyPost_ret (results_tmp4 rfl _ _ _) rfl ?_
  exact ⟨rfl, hb⟩

set_option maxHeartbeats 2000000 in
theorem setting_quoted (l t : List UInt8) (w : World) (hs : l.length ≤ 100000) (hh : l = 34 :: t) :
    Calls Tryd.prog 145 #[.string (ba l)] w fun e w' => e = .returned (.tuple #[.string (ba (setS l).1), .string (ba (setS l).2.1), .bool (setS l).2.2.1, .bool (setS l).2.2.2]) ∧ Below w.heap.size w w' := by
  have HN : Hid (setS l = ((cutP 34 t).1, (cutP 59 (cutP 34 t).2.1).2.1, (cutP 59 (cutP 34 t).2.1).2.2, (cutP 34 t).2.2 && (trimBy isSp (cutP 59 (cutP 34 t).2.1).1).isEmpty)) := by
    unfold Hid setS; rw [if_pos (by rw [hh]; rfl), hh]; rfl
  have C1 : Hid (∀ w, Calls Tryd.prog 180 #[.string (ba l), .string ⟨#[34]⟩] w fun e w' => e = .returned (.tuple #[.string (ba t), .bool true]) ∧ w' = w) := fun w => cutPre_yes 34 (ba l) (ba t) w (by rw [ba_size]; omega) hh
  have ht : t.length ≤ 100000 := by rw [hh] at hs; simp at hs; omega
  have C2 : Hid (∀ w, Calls Tryd.prog 80 #[.string (ba t), .string ⟨#[34]⟩] w fun e w' => e = .returned (.tuple #[.string (ba (cutP 34 t).1), .string (ba (cutP 34 t).2.1), .bool (cutP 34 t).2.2]) ∧ Below w.heap.size w w') := fun w => cutP_any 34 t w (by omega)
  have hl := (cutP_length 34 t).2.1
  generalize cutP 34 t = x9 at *
  obtain ⟨v, u, k⟩ := x9
  simp only at *
  have C3 : Hid (∀ w, Calls Tryd.prog 80 #[.string (ba u), .string ⟨#[59]⟩] w fun e w' => e = .returned (.tuple #[.string (ba (cutP 59 u).1), .string (ba (cutP 59 u).2.1), .bool (cutP 59 u).2.2]) ∧ Below w.heap.size w w') := fun w => cutP_any 59 u w (by omega)
  have hl2 := (cutP_length 59 u).1
  generalize cutP 59 u = x9 at *
  obtain ⟨g, r, m⟩ := x9
  simp only at *
  have C4 : Hid (∀ w, Calls Tryd.prog 85 #[.string (ba g), .string ⟨#[32]⟩] w fun e w' => e = .returned (.string (ba (trimBy isSp g))) ∧ Below w.heap.size w w') := fun w => trimSp_any _ _ rfl w (by rw [ba_size]; omega)
  clear hl hl2 hh hs ht
  have hem := ba_isEmpty (trimBy isSp g)
  generalize (trimBy isSp g).isEmpty = em at *
  generalize ba (trimBy isSp g) = sg at *
  have HN' := HN.out
  rw [HN']
  clear HN HN'
  simp only
  generalize ba l = s at *
  generalize ba t = st at *
  generalize ba v = sv at *
  generalize ba u = su at *
  generalize ba r = sr at *
  generalize ba g = sgg at *
  cases k
  all_goals
    go_enter Tryd.func145, Tryd.ntmps145
    go_wp2_with fail
    refine (C1.out _).mono ?_
    rintro e w1 ⟨rfl, hw'⟩
    have hw'' := hw'.symm
    subst hw''
    clear C1
    go_wp2_with fail
    refine (C2.out _).mono ?_
    rintro e w2 ⟨rfl, hb2⟩
    clear C2
    go_wp2_with fail
    refine (C3.out _).mono ?_
    rintro e w3 ⟨rfl, hb3⟩
    have hb23 := hb2.trans (hb3.mono hb2.size)
    clear C3
  · clear C4
    go_wp2
    (try simp only [Exit.inBlock, Exit.then])
    refine bodyPost_ret (results_tmp4 rfl _ _ _) rfl ?_
    exact ⟨rfl, hb23⟩
  · go_wp2_with fail
    refine (C4.out _).mono ?_
    rintro e w4 ⟨rfl, hb4⟩
    have hb24 := hb23.trans (hb4.mono hb23.size)
    clear C4
    go_wp2
    (try simp only [Exit.inBlock, Exit.then])
    refine bodyPost_ret (results_tmp4 rfl _ _ _) rfl ?_
    exact ⟨rfl, hb24⟩

/-- header.setting. -/
theorem setting_any (l : List UInt8) (w : World) (hs : l.length ≤ 100000) :
    Calls Tryd.prog 145 #[.string (ba l)] w fun e w' => e = .returned (.tuple #[.string (ba (setS l).1), .string (ba (setS l).2.1), .bool (setS l).2.2.1, .bool (setS l).2.2.2]) ∧ Below w.heap.size w w' := by
  by_cases hh : l.head? = some 34
  · cases l with
    | nil => cases hh
    | cons a t =>
      rw [List.head?_cons] at hh
      obtain rfl := Option.some.inj hh
      exact setting_quoted _ t w hs rfl
  · exact setting_plain l w hs hh
end Go.Proofs.YtehiaenicfmpbaaDoor

/- Plain facts on bytes: texts that are the same but for large and small letters. No program. -/
namespace Go.Proofs.YtehiaenicfmpbaaDoor

theorem lower_num8 (c : UInt8) : (Lib.lowerB c).toNat = if 65 ≤ c.toNat ∧ c.toNat ≤ 90 then c.toNat + 32 else c.toNat := by
  have : ∀ n : Fin 256, (Lib.lowerB (UInt8.ofNat n.val)).toNat = if 65 ≤ n.val ∧ n.val ≤ 90 then n.val + 32 else n.val := by decide +kernel
  have h := this ⟨c.toNat, c.toNat_lt⟩
  rwa [show UInt8.ofNat c.toNat = c from UInt8.ofNat_toNat] at h
theorem low_up (c : UInt8) : Lib.lowerB (Lib.upperB c) = Lib.lowerB c := by
  have : ∀ n : Fin 256, Lib.lowerB (Lib.upperB (UInt8.ofNat n.val)) = Lib.lowerB (UInt8.ofNat n.val) := by decide +kernel
  have h := this ⟨c.toNat, c.toNat_lt⟩
  rwa [show UInt8.ofNat c.toNat = c from UInt8.ofNat_toNat] at h
theorem low_low (c : UInt8) : Lib.lowerB (Lib.lowerB c) = Lib.lowerB c := by
  have : ∀ n : Fin 256, Lib.lowerB (Lib.lowerB (UInt8.ofNat n.val)) = Lib.lowerB (UInt8.ofNat n.val) := by decide +kernel
  have h := this ⟨c.toNat, c.toNat_lt⟩
  rwa [show UInt8.ofNat c.toNat = c from UInt8.ofNat_toNat] at h
theorem ascii_up (c : UInt8) (h : c.toNat < 128) : (Lib.upperB c).toNat < 128 := by
  have : ∀ n : Fin 256, n.val < 128 → (Lib.upperB (UInt8.ofNat n.val)).toNat < 128 := by decide +kernel
  have h := this ⟨c.toNat, c.toNat_lt⟩ h
  rwa [show UInt8.ofNat c.toNat = c from UInt8.ofNat_toNat] at h
theorem ascii_low (c : UInt8) (h : c.toNat < 128) : (Lib.lowerB c).toNat < 128 := by
  rw [lower_num8]; split <;> omega

theorem foldEq_low (x y : UInt8) : Lib.foldEq x y = decide (Lib.lowerB x = Lib.lowerB y) := by
  have hx := lower_num8 x
  have hy := lower_num8 y
  unfold Lib.foldEq
  rw [Bool.eq_iff_iff, decide_eq_true_iff, decide_eq_true_iff]
  constructor
  · intro h
    apply UInt8.toNat_inj.1
    rw [hx, hy]
    split <;> split <;> omega
  · intro h
    have h' := congrArg UInt8.toNat h
    rw [hx, hy] at h'
    split at h' <;> split at h' <;> omega
theorem fold_low : ∀ s t : List UInt8, Lib.equalFold s t = decide (s.map Lib.lowerB = t.map Lib.lowerB)
  | [], [] => rfl
  | [], y :: t => by simp [Lib.equalFold]
  | x :: s, [] => by simp [Lib.equalFold]
  | x :: s, y :: t => by
    rw [Lib.equalFold, fold_low s t, foldEq_low]
    simp [Bool.decide_and]

theorem map_up (s : List UInt8) : (Lib.toUpperA s).map Lib.lowerB = s.map Lib.lowerB := by
  unfold Lib.toUpperA; rw [List.map_map]; congr 1; funext c; exact low_up c
theorem map_low (s : List UInt8) : (Lib.toLowerA s).map Lib.lowerB = s.map Lib.lowerB := by
  unfold Lib.toLowerA; rw [List.map_map]; congr 1; funext c; exact low_low c
/-- Asked for in large letters, in small letters, it is the same. -/
theorem fold_up (s t : List UInt8) : Lib.equalFold s (Lib.toUpperA t) = Lib.equalFold s t := by rw [fold_low, fold_low, map_up]
theorem fold_down (s t : List UInt8) : Lib.equalFold s (Lib.toLowerA t) = Lib.equalFold s t := by rw [fold_low, fold_low, map_low]
theorem fold_self (s : List UInt8) : Lib.equalFold s s = true := by rw [fold_low]; simp
theorem ascii_upA (s : List UInt8) (h : ∀ c ∈ s, c.toNat < 128) : ∀ c ∈ Lib.toUpperA s, c.toNat < 128 := by
  intro c hc
  obtain ⟨d, hd, rfl⟩ := List.mem_map.1 hc
  exact ascii_up d (h d hd)
theorem ascii_lowA (s : List UInt8) (h : ∀ c ∈ s, c.toNat < 128) : ∀ c ∈ Lib.toLowerA s, c.toNat < 128 := by
  intro c hc
  obtain ⟨d, hd, rfl⟩ := List.mem_map.1 hc
  exact ascii_low d (h d hd)
end Go.Proofs.YtehiaenicfmpbaaDoor

/- The reference's Small of an ASCII text: its letters small. Nothing that was there is changed. Conditions: the tables of unicode/utf8 lie there as the program's text lays them. -/
namespace Go.Proofs.YtehiaenicfmpbaaDoor
open Go.RowKit

def rsm (x : Int) : Int := if 65 ≤ x ∧ x ≤ 90 then x + 32 else x

theorem rsm_any (x : Nat) (hx : x ≤ 1114111) (w : World) : Calls Tryd.prog 148 #[.int .i32 (x : Int)] w fun e w' => e = .returned (.int .i32 (rsm x)) ∧ w' = w := by
  by_cases h1 : 65 ≤ x
  · have h1' : (65 : Int) ≤ (x : Int) := by omega
    by_cases h2 : x ≤ 90
    · have h2' : (x : Int) ≤ 90 := by omega
      have HN : Hid (rsm x = (x : Int) + 32) := by unfold Hid rsm; rw [if_pos ⟨h1', h2'⟩]
      have hw : IntKind.i32.wrap ((x : Int) + 32) = (x : Int) + 32 := by rw [IntKind.wrap_i32]; omega
      go_enter Tryd.func148, Tryd.ntmps148
      go_wp2
      go_ret
      exact ⟨by rw [HN.out]; rfl, rfl⟩
    · have h2' : decide ((x : Int) ≤ 90) = false := by simp; omega
      have HN : Hid (rsm x = (x : Int)) := by unfold Hid rsm; rw [if_neg (by omega)]
      go_enter Tryd.func148, Tryd.ntmps148
      go_wp2
      go_ret
      exact ⟨by rw [HN.out]; rfl, rfl⟩
  · have h1' : decide ((65 : Int) ≤ (x : Int)) = false := by simp; omega
    have HN : Hid (rsm x = (x : Int)) := by unfold Hid rsm; rw [if_neg (by omega)]
    go_enter Tryd.func148, Tryd.ntmps148
    go_wp2
    go_ret
    exact ⟨by rw [HN.out]; rfl, rfl⟩

theorem decode_one (c : UInt8) (l : List UInt8) (h : c.toNat < 128) : Lib.decodeL (c :: l) = (c.toNat, 1) := by
  have e : (ByteArray.mk (c :: l).toArray).get! 0 = c := rfl
  unfold Lib.decodeL Utf8.decode
  simp only [Nat.add_zero, e]
  rw [if_pos h]

theorem rsm_byte (c : UInt8) (h : c.toNat < 128) : 0 ≤ rsm (c.toNat : Int) ∧ Lib.encodeRune (rsm (c.toNat : Int)) = [Lib.lowerB c] := by
  have hl := lower_num8 c
  have e : rsm (c.toNat : Int) = ((Lib.lowerB c).toNat : Int) := by
    unfold rsm
    by_cases hu : 65 ≤ c.toNat ∧ c.toNat ≤ 90
    · rw [if_pos hu] at hl; rw [if_pos (by omega), hl]; omega
    · rw [if_neg hu] at hl; rw [if_neg (by omega), hl]
  have h2 := ascii_low c h
  refine ⟨by rw [e]; omega, ?_⟩
  rw [e, Lib.encodeRune, Lib.encodeRuneZ_one (by omega) (by omega)]
  simp

theorem map_small : ∀ (n : Nat) (l : List UInt8), l.length ≤ n → (∀ c ∈ l, c.toNat < 128) → Lib.mapGoD rsm n l = small8 l
  | 0, l, hn, _ => by
    have : l = [] := List.length_eq_zero_iff.1 (by omega)
    subst this; rfl
  | n + 1, [], _, _ => by rw [Lib.mapGoD, if_pos rfl]; rfl
  | n + 1, c :: l, hn, ha => by
    have hc := ha c (by simp)
    rw [Lib.mapGoD, if_neg (by simp), decode_one c l hc, if_pos (rsm_byte c hc).1, (rsm_byte c hc).2]
    simp only [List.drop_succ_cons, List.drop_zero]
    rw [map_small n l (by simpa using hn) (fun x hx => ha x (by simp [hx]))]
    rfl

theorem rsmall_any (l : List UInt8) (w : World) (hs : l.length ≤ 1000000) (ha : ∀ c ∈ l, c.toNat < 128) (hT : Lib.Utf8Tabs 4 5 w) :
    Calls Tryd.prog 97 #[.string (ba l)] w fun e w' => e = .returned (.string (ba (small8 l))) ∧ Below w.heap.size w w' := by
  have C := Tryd.strings_Map_runes 148 #[] (fun args w => by kernel_rfl) rsm (ba l) w (by rw [ba_size]; omega) (fun W x hx _ => (rsm_any x hx W).mono (fun e w' h => ⟨h.1, 0, h.2⟩)) (fun x hx => by unfold rsm; split <;> omega) hT
  have e : Lib.mapD rsm (ba l).data.toList = small8 l := map_small _ _ (Nat.le_refl _) ha
  rw [e] at C
  have HC : Hid (Calls Tryd.prog 112 #[.func (.func 148) #[] #[], .string (ba l)] w fun e w' => e = .returned (.string (ba (small8 l))) ∧ Below w.heap.size w w') := C
  clear C e ha hT
  go_enter Tryd.func97, Tryd.ntmps97
  go_wp2_with fail
  refine HC.out.mono ?_
  rintro e w1 ⟨rfl, hb⟩
  clear HC
  go_wp2
  go_ret
  exact ⟨rfl, hb⟩
end Go.Proofs.YtehiaenicfmpbaaDoor
