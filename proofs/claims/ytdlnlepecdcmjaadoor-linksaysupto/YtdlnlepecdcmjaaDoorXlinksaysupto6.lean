/- link's reader: done, sees, pass, passEnd: what the plain functions say; all is as it was, but for where the reader is. -/
import Derived.Test.YtdlnlepecdcmjaaDoorXlinksaysupto1
import Derived.Test.YtdlnlepecdcmjaaDoorXlinksaysupto4
import Derived.Test.YtdlnlepecdcmjaaDoorXlinksaysupto5
namespace Go.Proofs.YtdlnlepecdcmjaaDoor
open Go.RowKit

theorem RdAt.drewN {w : World} {g : Nat} {p : ByteArray} {k : Int} (h : RdAt w g p k) (n : Nat) : RdAt (w.drewN n) g p k := by
  unfold RdAt at h ⊢
  exact h
theorem below_many {n : Nat} {w w' : World} (h : Below n w w') (m : Nat) : Below n w (w'.drewN m) := by
  induction m with
  | zero => exact h
  | succ m ih => exact ih.drew
set_option maxHeartbeats 1000000 in
theorem done_any (g : Nat) (p : ByteArray) (k : Int) (w : World) (hr : RdAt w g p k) :
    Calls Tryd.prog 11 #[.pointer (some ⟨g, 0, none⟩)] w fun e w' => e = .returned (.bool (decide ((p.size : Int) ≤ k))) ∧ ∃ m, w' = w.drewN m := by
  have h0 := hr.page
  have h1 := hr.at_
  clear hr
  go_enter Tryd.func11, Tryd.ntmps11
  go_wp2
  go_region
  all_goals (
    go_wp2
    go_ret
    exact ⟨rfl, 1, rfl⟩)
/-- A call that only draws, in a region that draws. -/
def QuietAt (F : Nat) (args : Array Value) (v : Value) (w : World) : Prop := ∀ n, Calls Tryd.prog F args (w.drewN n) fun e w'' => e = .returned v ∧ ∃ m, w'' = w.drewN m
theorem done_quiet (g : Nat) (p : ByteArray) (k : Int) (b : Bool) (hb : decide ((p.size : Int) ≤ k) = b) (w : World) (hr : RdAt w g p k) : QuietAt 11 #[.pointer (some ⟨g, 0, none⟩)] (.bool b) w := fun n => by
  subst hb
  exact Calls.quiet_of (done_any g p k _ (hr.drewN n))
set_option maxHeartbeats 2000000 in
theorem sees_any (g : Nat) (p : ByteArray) (k : Nat) (c : UInt8) (cc : Int) (ec : cc = (c.toNat : Int)) (w : World) (hr : RdAt w g p k) :
    Calls Tryd.prog 49 #[.pointer (some ⟨g, 0, none⟩), .int .u8 cc] w fun e w' => e = .returned (.bool ((p.data.toList.drop k).head? == some c)) ∧ ∃ m, w' = w.drewN m := by
  subst ec
  have h0 := hr.page
  have h1 := hr.at_
  by_cases hk : k < p.size
  · have HD : Hid (QuietAt 11 #[.pointer (some ⟨g, 0, none⟩)] (.bool false) w) := done_quiet g p k false (by simp; omega) w hr
    have HV : Hid (((p.data.toList.drop k).head? == some c) = ((p[k].toNat : Int) == (c.toNat : Int))) := by
      unfold Hid
      rw [dropB p k hk, List.head?_cons, Bool.eq_iff_iff]
      simp only [beq_iff_eq, Option.some.injEq]
      exact ⟨fun h => by rw [h], fun h => UInt8.toNat_inj.1 (by omega)⟩
    clear hr
    go_enter Tryd.func49, Tryd.ntmps49
    go_wp2_with fail
    go_quiet (first | (go_at_call 11; exact HD.out _) | fail)
    go_wp2_with fail
    go_ret
    exact ⟨ret_bool HV.out.symm, _, rfl⟩
  · have HD : Hid (QuietAt 11 #[.pointer (some ⟨g, 0, none⟩)] (.bool true) w) := done_quiet g p k true (by simp; omega) w hr
    have HV : Hid (((p.data.toList.drop k).head? == some c) = false) := by
      unfold Hid
      rw [List.drop_of_length_le (by rw [← Lib.size_eq]; omega)]
      rfl
    clear hr
    go_enter Tryd.func49, Tryd.ntmps49
    go_wp2_with fail
    go_quiet (first | (go_at_call 11; exact HD.out _) | fail)
    go_wp2_with fail
    go_ret
    exact ⟨ret_bool HV.out.symm, _, rfl⟩
/-- What is asked of bytes, in each world of some kind. -/
structure AskIn (F : Nat) (caps : Array Value) (q : UInt8 → Bool) (g : Nat) (OK : World → Prop) : Prop where
  call : ∀ (args : Array Value) (W : World), Sem.run Tryd.prog (callFunc F args) W = .ok (.enter F args) W
  ask : ∀ (c : UInt8) (W : World), OK W → Calls Tryd.prog F (#[.int .u8 (c.toNat : Int)] ++ caps) W fun e w' => e = .returned (.bool (q c)) ∧ w' = W
  drew : ∀ (W : World) (n : Nat), OK W → OK (W.drewN n)
  set : ∀ (W : World) (v : Value), OK W → OK (W.setCell ⟨g, 1, none⟩ v)
theorem AskIn.quiet {F : Nat} {caps : Array Value} {q : UInt8 → Bool} {g : Nat} {OK : World → Prop} (h : AskIn F caps q g OK) (c : UInt8) (b : Bool) (hb : q c = b) (w : World) (hw : OK w) : QuietAt F (#[.int .u8 (c.toNat : Int)] ++ caps) (.bool b) w := fun n => by
  subst hb
  exact Calls.quiet_of_same (h.ask c _ (h.drew w n hw))
theorem tw_step (q : UInt8 → Bool) (p : ByteArray) (k : Nat) (hk : k < p.size) (hq : q p[k] = true) : (p.data.toList.drop k).takeWhile q = p[k] :: (p.data.toList.drop (k + 1)).takeWhile q := by
  rw [dropB p k hk, List.takeWhile_cons, if_pos hq]
theorem tw_stop (q : UInt8 → Bool) (p : ByteArray) (k : Nat) (hk : k < p.size) (hq : q p[k] = false) : (p.data.toList.drop k).takeWhile q = [] := by
  rw [dropB p k hk, List.takeWhile_cons, if_neg (by rw [hq]; decide)]
theorem tw_end (q : UInt8 → Bool) (p : ByteArray) (k : Nat) (hk : ¬ k < p.size) : (p.data.toList.drop k).takeWhile q = [] := by
  rw [List.drop_of_length_le (by rw [← Lib.size_eq]; omega)]
  rfl
set_option maxHeartbeats 4000000 in
theorem pass_any (F : Nat) (caps : Array Value) (q : UInt8 → Bool) (OK : World → Prop) (g : Nat) (p : ByteArray) (k m : Nat) (T : ByteArray) (w : World) (hr : RdAt w g p k) (hOK : OK w) (HQ : AskIn F caps q g OK) (hp : p.size ≤ 4000)
    (hm : m = k + ((p.data.toList.drop k).takeWhile q).length) (hT : p.extract k m = T) (hmp : m ≤ p.size) :
    Calls Tryd.prog 45 #[.pointer (some ⟨g, 0, none⟩), .func (Fn.func F) #[] caps] w fun e w' => e = .returned (.string T) ∧ Moves w g m w' := by
  have HA : Hid (AskIn F caps q g OK) := HQ
  have hcall := HQ.call
  have h0 := hr.page
  have h1 := hr.at_
  have hfr := hr.frozen 1
  have hmk : k ≤ m := by omega
  have HM : Hid (m = k + ((p.data.toList.drop k).takeWhile q).length) := hm
  have HT : Hid (p.extract k m = T) := hT
  clear HQ hm hT
  go_enter Tryd.func45, Tryd.ntmps45
  go_wp2_with fail
  go_loopg [] (p.size + 1 - k) (fun gk wr => ∃ j : Nat, j + gk = p.size + 1 ∧ k ≤ j ∧ j ≤ m ∧ RdAt wr g p j ∧ Moves w g j wr ∧ OK wr ∧ Hid (m = j + ((p.data.toList.drop j).takeWhile q).length))
  case atStart => exact ⟨k, by omega, Nat.le_refl _, hmk, hr, Moves.still hr, hOK, HM⟩
  case round =>
    obtain ⟨j, hj1, hj2, hj3, hrj, hmj, hok, HJ⟩ := hrel
    have h0j := hrj.page
    have h1j := hrj.at_
    have hfj := hrj.frozen 1
    have HR : Hid (RdAt w g p k) := hr
    have HRj : Hid (RdAt wr g p j) := hrj
    have HMj : Hid (Moves w g j wr) := hmj
    have HOj : Hid (OK wr) := hok
    clear h0 h1 hfr hr hrj hmj hOK hok
    by_cases hlt : j < p.size
    · have HD : Hid (QuietAt 11 #[.pointer (some ⟨g, 0, none⟩)] (.bool false) wr) := done_quiet g p j false (by simp; omega) wr HRj.out
      by_cases hq : q p[j] = true
      · have HC : Hid (QuietAt F (#[.int .u8 (p[j].toNat : Int)] ++ caps) (.bool true) wr) := HA.out.quiet p[j] true hq wr HOj.out
        have HN : Hid (m = (j + 1) + ((p.data.toList.drop (j + 1)).takeWhile q).length) := by
          unfold Hid
          have := HJ.out
          rw [tw_step q p j hlt hq, List.length_cons] at this
          omega
        have hw1 : IntKind.i64.wrap ((j : Int) + 1) = ((j + 1 : Nat) : Int) := by rw [IntKind.wrap_i64]; omega
        have hjm : j + 1 ≤ m := by have := HN.out; omega
        clear hq HJ
        go_wp2_with fail
        go_quiet (first | (go_at_call 11; exact HD.out _) | exact HC.out _)
        go_wp2_with fail
        go_roundg (gk - 1)
        case measure => omega
        case rel =>
          exact ⟨j + 1, by omega, by omega, hjm, (HRj.out.drewN _).set _, (HMj.out.then (below_many (Below.refl _ _) _)).trans Moves.of_set HR.out, HA.out.set _ _ (HA.out.drew _ _ HOj.out), HN⟩
      · have HC : Hid (QuietAt F (#[.int .u8 (p[j].toNat : Int)] ++ caps) (.bool false) wr) := HA.out.quiet p[j] false (by simpa using hq) wr HOj.out
        have hjm : m = j := by
          have := HJ.out
          rw [tw_stop q p j hlt (by simpa using hq), List.length_nil] at this
          omega
        subst hjm
        clear hq HJ
        go_wp2_with fail
        go_quiet (first | (go_at_call 11; exact HD.out _) | exact HC.out _)
        have hk1 : (k : Int) ≤ (m : Int) := by omega
        have hk2 : (m : Int) ≤ (p.size : Int) := by omega
        go_wp2_with fail
        go_region
        all_goals (
          go_wp2_with fail
          go_ret
          exact ⟨by rw [← HT.out]; rfl, HMj.out.then (below_many (Below.refl _ _) _)⟩)
    · have HD : Hid (QuietAt 11 #[.pointer (some ⟨g, 0, none⟩)] (.bool true) wr) := done_quiet g p j true (by simp; omega) wr HRj.out
      have hjm : m = j := by
        have := HJ.out
        rw [tw_end q p j hlt, List.length_nil] at this
        omega
      subst hjm
      clear HJ
      go_wp2_with fail
      go_quiet (first | (go_at_call 11; exact HD.out _) | fail)
      have hk1 : (k : Int) ≤ (m : Int) := by omega
      have hk2 : (m : Int) ≤ (p.size : Int) := by omega
      go_wp2_with fail
      go_region
      all_goals (
        go_wp2_with fail
        go_ret
        exact ⟨by rw [← HT.out]; rfl, HMj.out.then (below_many (Below.refl _ _) _)⟩)

theorem ask_space (g : Nat) : AskIn 47 #[] spB g (fun _ => True) := ⟨fun args W => by kernel_rfl, fun c W _ => space_any c _ rfl W, fun _ _ _ => trivial, fun _ _ _ => trivial⟩
theorem ask_tag1 (g : Nat) : AskIn 46 #[] inName g (fun _ => True) := ⟨fun args W => by kernel_rfl, fun c W _ => tag1_any c W, fun _ _ _ => trivial, fun _ _ _ => trivial⟩
theorem ask_tag2 (g : Nat) : AskIn 48 #[] inGap g (fun _ => True) := ⟨fun args W => by kernel_rfl, fun c W _ => tag2_any c W, fun _ _ _ => trivial, fun _ _ _ => trivial⟩
theorem ask_attr1 (g : Nat) : AskIn 61 #[] inAttr g (fun _ => True) := ⟨fun args W => by kernel_rfl, fun c W _ => attr1_any c W, fun _ _ _ => trivial, fun _ _ _ => trivial⟩
theorem ask_val1 (g : Nat) : AskIn 75 #[] inBare g (fun _ => True) := ⟨fun args W => by kernel_rfl, fun c W _ => val1_any c W, fun _ _ _ => trivial, fun _ _ _ => trivial⟩
theorem ask_val2 (g h : Nat) (q : UInt8) (hgh : h ≠ g) : AskIn 76 #[.pointer (some ⟨h, 0, none⟩)] (notQ q) g (fun W => W.cell? ⟨h, 0, none⟩ = some (.int .u8 (q.toNat : Int))) :=
  ⟨fun args W => by kernel_rfl, fun c W hW => val2_any q c h W hW, fun _ _ h => h, fun W v hW => by rw [World.cell?_setCell_other _ _ _ _ (fun e => hgh (by cases e))]; exact hW⟩
end Go.Proofs.YtdlnlepecdcmjaaDoor
