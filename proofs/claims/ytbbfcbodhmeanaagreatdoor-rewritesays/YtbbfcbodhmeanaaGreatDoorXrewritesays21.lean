
import Derived.Test.YtbbfcbodhmeanaaGreatDoorXrewritesays20
import Derived.Lib.Case
import Derived.Lib.Fold
namespace Go.Proofs.YtbbfcbodhmeanaaGreatDoor
open Go.RowKit
def tlB (b0 b1 b2 b3 b4:Bool):Nat→Bool
 | 0=>b0 && (b1 && (b2 && (b3 && b4)))
 | 1=>b1 && (b2 && (b3 && b4))
 | 2=>b2 && (b3 && b4)
 | 3=>b3 && b4
 | _=>b4
def wrtB (u:UL):Bool:=tlB (allU (inB 33 126 hostN) u.hst) (allU (inB 33 126 pathN) u.pth) (allU (inB 33 126 fragN) u.qry) (allU (inB 33 126 fragN) u.frg) (allU lowOnly u.hst) 0
theorem wrtU_eq (u:UL):wrtU u = ((u.sch.isEmpty || schemeS u.sch) && wrtB u):=by
 unfold wrtU wrtB tlB allU betw lowOnly
 simp only [Bool.and_assoc]
set_option maxHeartbeats 4000000 in
set_option maxRecDepth 100000 in
theorem writ_e (hst pth qry frg:ByteArray) (hh hq hf:Bool) (b0 b1 b2 b3 b4:Bool) (w:World)
  (C0:Hid (∀ (g:Nat) (W:World),W.cell? ⟨g,0,none⟩ = some (.string hst)→W.cell? ⟨g,1,none⟩ = some (.string ⟨#[34,60,62,92,94,96,123,124,125,47,63,35]⟩)→Calls Tryz.prog 142 #[.string hst,.func (Fn.func 186) #[] #[.pointer (some ⟨g,0,none⟩)]] W fun e w'=>e = .returned (.bool b0)∧w' = W))
  (C1:Hid (∀ (g:Nat) (W:World),W.cell? ⟨g,0,none⟩ = some (.string pth)→W.cell? ⟨g,1,none⟩ = some (.string ⟨#[34,60,62,92,94,96,123,124,125,63,35]⟩)→Calls Tryz.prog 142 #[.string pth,.func (Fn.func 186) #[] #[.pointer (some ⟨g,0,none⟩)]] W fun e w'=>e = .returned (.bool b1)∧w' = W))
  (C2:Hid (∀ (g:Nat) (W:World),W.cell? ⟨g,0,none⟩ = some (.string qry)→W.cell? ⟨g,1,none⟩ = some (.string ⟨#[34,60,62,92,94,96,123,124,125,35]⟩)→Calls Tryz.prog 142 #[.string qry,.func (Fn.func 186) #[] #[.pointer (some ⟨g,0,none⟩)]] W fun e w'=>e = .returned (.bool b2)∧w' = W))
  (C3:Hid (∀ (g:Nat) (W:World),W.cell? ⟨g,0,none⟩ = some (.string frg)→W.cell? ⟨g,1,none⟩ = some (.string ⟨#[34,60,62,92,94,96,123,124,125,35]⟩)→Calls Tryz.prog 142 #[.string frg,.func (Fn.func 186) #[] #[.pointer (some ⟨g,0,none⟩)]] W fun e w'=>e = .returned (.bool b3)∧w' = W))
  (C4:Hid (∀ W:World,Calls Tryz.prog 142 #[.string hst,.func (Fn.func 187) #[] #[]] W fun e w'=>e = .returned (.bool b4)∧w' = W)) :
  Calls Tryz.prog 145 #[.agg #[.string ⟨#[]⟩,.bool hh,.string hst,.string pth,.bool hq,.string qry,.bool hf,.string frg]] w fun e w'=>e = .returned (.bool (tlB b0 b1 b2 b3 b4 0))∧Below w.heap.size w w':=by
 obtain ⟨R,hR⟩:∃ R,tlB b0 b1 b2 b3 b4 0 = R:=⟨_,rfl⟩
 rw [hR]
 have HR:Hid (tlB b0 b1 b2 b3 b4 0 = R):=hR
 clear hR
 go_enter Tryz.func145,Tryz.ntmps145
 go_wp2
 obtain ⟨w9,hw9⟩:∃ W,W = w.alloc (.cells #[.string ⟨#[]⟩,.bool hh,.string hst,.string pth,.bool hq,.string qry,.bool hf,.string frg] 85):=⟨_,rfl⟩
 have hb9:Below w.heap.size w w9:=by rw [hw9];exact (Below.refl _ _).alloc (Nat.le_refl _) _
 have hs9:w9.heap.size = w.heap.size + 1:=by rw [hw9];simp
 have hc9:w9.cell? ⟨w.heap.size,2,none⟩ = some (.string hst):=by rw [hw9];simp
 go_loopw [27] (fun iv wr=>∃ k:Nat,k≤4∧iv = .int .i64 k∧Below w9.heap.size w9 wr∧Hid (tlB b0 b1 b2 b3 b4 k = R)) (fun iv _=>4 - (intOf iv).toNat)
 case atStart=>exact ⟨0,Nat.zero_le _,rfl,by rw [hw9];exact Below.refl _ _,HR⟩
 case round =>
  obtain ⟨k,hk,rfl,hbel,HK⟩:=hrel
  have hsz:=hbel.size
  rcases (show k = 0 ∨ k = 1 ∨ k = 2 ∨ k = 3 ∨ k = 4 by omega) with rfl | rfl | rfl | rfl | rfl
  ·cases b0 with
   | false =>
    have HN:Hid (R = false):=by unfold Hid;rw [← HK.out];rfl
    clear HK HR
    have hix:∀ W:World,(Instr.index 197 (.agg #[.string hst,.string ⟨#[34,60,62,92,94,96,123,124,125,47,63,35]⟩,.string pth,.string ⟨#[34,60,62,92,94,96,123,124,125,63,35]⟩,.string qry,.string ⟨#[34,60,62,92,94,96,123,124,125,35]⟩,.string frg,.string ⟨#[34,60,62,92,94,96,123,124,125,35]⟩]) (.int .i64 0)).run Tryz.prog W = .ok (.agg #[.string hst,.string ⟨#[34,60,62,92,94,96,123,124,125,47,63,35]⟩]) W:=fun W=>by kernel_rfl
    go_wp2_with fail
    refine (C0.out wr.heap.size _ ?_ ?_).mono ?_
    ·simp
    ·simp
    rintro e w' ⟨rfl,hw'⟩
    have hw'':=hw'.symm
    subst hw''
    go_wp2
    go_ret
    exact ⟨by rw [HN.out];rfl,hb9.trans ((hbel.alloc hsz _).mono hb9.size)⟩
   | true =>
    have HN:Hid (tlB true b1 b2 b3 b4 1 = R):=by unfold Hid;rw [← HK.out];rfl
    clear HK HR
    have hix:∀ W:World,(Instr.index 197 (.agg #[.string hst,.string ⟨#[34,60,62,92,94,96,123,124,125,47,63,35]⟩,.string pth,.string ⟨#[34,60,62,92,94,96,123,124,125,63,35]⟩,.string qry,.string ⟨#[34,60,62,92,94,96,123,124,125,35]⟩,.string frg,.string ⟨#[34,60,62,92,94,96,123,124,125,35]⟩]) (.int .i64 0)).run Tryz.prog W = .ok (.agg #[.string hst,.string ⟨#[34,60,62,92,94,96,123,124,125,47,63,35]⟩]) W:=fun W=>by kernel_rfl
    go_wp2_with fail
    refine (C0.out wr.heap.size _ ?_ ?_).mono ?_
    ·simp
    ·simp
    rintro e w' ⟨rfl,hw'⟩
    have hw'':=hw'.symm
    subst hw''
    go_wp2
    go_roundw
    case rel=>exact ⟨1,by omega,by go_num,hbel.alloc hsz _,HN⟩
    case measure=>simp [intOf]
  ·cases b1 with
   | false =>
    have HN:Hid (R = false):=by unfold Hid;rw [← HK.out];rfl
    clear HK HR
    have hix:∀ W:World,(Instr.index 197 (.agg #[.string hst,.string ⟨#[34,60,62,92,94,96,123,124,125,47,63,35]⟩,.string pth,.string ⟨#[34,60,62,92,94,96,123,124,125,63,35]⟩,.string qry,.string ⟨#[34,60,62,92,94,96,123,124,125,35]⟩,.string frg,.string ⟨#[34,60,62,92,94,96,123,124,125,35]⟩]) (.int .i64 1)).run Tryz.prog W = .ok (.agg #[.string pth,.string ⟨#[34,60,62,92,94,96,123,124,125,63,35]⟩]) W:=fun W=>by kernel_rfl
    go_wp2_with fail
    refine (C1.out wr.heap.size _ ?_ ?_).mono ?_
    ·simp
    ·simp
    rintro e w' ⟨rfl,hw'⟩
    have hw'':=hw'.symm
    subst hw''
    go_wp2
    go_ret
    exact ⟨by rw [HN.out];rfl,hb9.trans ((hbel.alloc hsz _).mono hb9.size)⟩
   | true =>
    have HN:Hid (tlB b0 true b2 b3 b4 2 = R):=by unfold Hid;rw [← HK.out];rfl
    clear HK HR
    have hix:∀ W:World,(Instr.index 197 (.agg #[.string hst,.string ⟨#[34,60,62,92,94,96,123,124,125,47,63,35]⟩,.string pth,.string ⟨#[34,60,62,92,94,96,123,124,125,63,35]⟩,.string qry,.string ⟨#[34,60,62,92,94,96,123,124,125,35]⟩,.string frg,.string ⟨#[34,60,62,92,94,96,123,124,125,35]⟩]) (.int .i64 1)).run Tryz.prog W = .ok (.agg #[.string pth,.string ⟨#[34,60,62,92,94,96,123,124,125,63,35]⟩]) W:=fun W=>by kernel_rfl
    go_wp2_with fail
    refine (C1.out wr.heap.size _ ?_ ?_).mono ?_
    ·simp
    ·simp
    rintro e w' ⟨rfl,hw'⟩
    have hw'':=hw'.symm
    subst hw''
    go_wp2
    go_roundw
    case rel=>exact ⟨2,by omega,by go_num,hbel.alloc hsz _,HN⟩
    case measure=>simp [intOf]
  ·cases b2 with
   | false =>
    have HN:Hid (R = false):=by unfold Hid;rw [← HK.out];rfl
    clear HK HR
    have hix:∀ W:World,(Instr.index 197 (.agg #[.string hst,.string ⟨#[34,60,62,92,94,96,123,124,125,47,63,35]⟩,.string pth,.string ⟨#[34,60,62,92,94,96,123,124,125,63,35]⟩,.string qry,.string ⟨#[34,60,62,92,94,96,123,124,125,35]⟩,.string frg,.string ⟨#[34,60,62,92,94,96,123,124,125,35]⟩]) (.int .i64 2)).run Tryz.prog W = .ok (.agg #[.string qry,.string ⟨#[34,60,62,92,94,96,123,124,125,35]⟩]) W:=fun W=>by kernel_rfl
    go_wp2_with fail
    refine (C2.out wr.heap.size _ ?_ ?_).mono ?_
    ·simp
    ·simp
    rintro e w' ⟨rfl,hw'⟩
    have hw'':=hw'.symm
    subst hw''
    go_wp2
    go_ret
    exact ⟨by rw [HN.out];rfl,hb9.trans ((hbel.alloc hsz _).mono hb9.size)⟩
   | true =>
    have HN:Hid (tlB b0 b1 true b3 b4 3 = R):=by unfold Hid;rw [← HK.out];rfl
    clear HK HR
    have hix:∀ W:World,(Instr.index 197 (.agg #[.string hst,.string ⟨#[34,60,62,92,94,96,123,124,125,47,63,35]⟩,.string pth,.string ⟨#[34,60,62,92,94,96,123,124,125,63,35]⟩,.string qry,.string ⟨#[34,60,62,92,94,96,123,124,125,35]⟩,.string frg,.string ⟨#[34,60,62,92,94,96,123,124,125,35]⟩]) (.int .i64 2)).run Tryz.prog W = .ok (.agg #[.string qry,.string ⟨#[34,60,62,92,94,96,123,124,125,35]⟩]) W:=fun W=>by kernel_rfl
    go_wp2_with fail
    refine (C2.out wr.heap.size _ ?_ ?_).mono ?_
    ·simp
    ·simp
    rintro e w' ⟨rfl,hw'⟩
    have hw'':=hw'.symm
    subst hw''
    go_wp2
    go_roundw
    case rel=>exact ⟨3,by omega,by go_num,hbel.alloc hsz _,HN⟩
    case measure=>simp [intOf]
  ·cases b3 with
   | false =>
    have HN:Hid (R = false):=by unfold Hid;rw [← HK.out];rfl
    clear HK HR
    have hix:∀ W:World,(Instr.index 197 (.agg #[.string hst,.string ⟨#[34,60,62,92,94,96,123,124,125,47,63,35]⟩,.string pth,.string ⟨#[34,60,62,92,94,96,123,124,125,63,35]⟩,.string qry,.string ⟨#[34,60,62,92,94,96,123,124,125,35]⟩,.string frg,.string ⟨#[34,60,62,92,94,96,123,124,125,35]⟩]) (.int .i64 3)).run Tryz.prog W = .ok (.agg #[.string frg,.string ⟨#[34,60,62,92,94,96,123,124,125,35]⟩]) W:=fun W=>by kernel_rfl
    go_wp2_with fail
    refine (C3.out wr.heap.size _ ?_ ?_).mono ?_
    ·simp
    ·simp
    rintro e w' ⟨rfl,hw'⟩
    have hw'':=hw'.symm
    subst hw''
    go_wp2
    go_ret
    exact ⟨by rw [HN.out];rfl,hb9.trans ((hbel.alloc hsz _).mono hb9.size)⟩
   | true =>
    have HN:Hid (tlB b0 b1 b2 true b4 4 = R):=by unfold Hid;rw [← HK.out];rfl
    clear HK HR
    have hix:∀ W:World,(Instr.index 197 (.agg #[.string hst,.string ⟨#[34,60,62,92,94,96,123,124,125,47,63,35]⟩,.string pth,.string ⟨#[34,60,62,92,94,96,123,124,125,63,35]⟩,.string qry,.string ⟨#[34,60,62,92,94,96,123,124,125,35]⟩,.string frg,.string ⟨#[34,60,62,92,94,96,123,124,125,35]⟩]) (.int .i64 3)).run Tryz.prog W = .ok (.agg #[.string frg,.string ⟨#[34,60,62,92,94,96,123,124,125,35]⟩]) W:=fun W=>by kernel_rfl
    go_wp2_with fail
    refine (C3.out wr.heap.size _ ?_ ?_).mono ?_
    ·simp
    ·simp
    rintro e w' ⟨rfl,hw'⟩
    have hw'':=hw'.symm
    subst hw''
    go_wp2
    go_roundw
    case rel=>exact ⟨4,by omega,by go_num,hbel.alloc hsz _,HN⟩
    case measure=>simp [intOf]
  ·have HN:Hid (R = b4):=by unfold Hid;rw [← HK.out];rfl
   have hc8:wr.cell? ⟨w.heap.size,2,none⟩ = some (.string hst):=(hbel.cell (p:=⟨w.heap.size,2,none⟩) (by simp;omega)).trans hc9
   clear HK HR hc9
   go_wp2_with fail
   refine (C4.out _).mono ?_
   rintro e w' ⟨rfl,hw'⟩
   have hw'':=hw'.symm
   subst hw''
   go_wp2
   go_ret
   exact ⟨by rw [HN.out];rfl,hb9.trans (hbel.mono hb9.size)⟩
set_option maxHeartbeats 4000000 in
set_option maxRecDepth 100000 in
theorem writ_s (sch hst pth qry frg:ByteArray) (hh hq hf:Bool) (hne:sch.data.toList ≠ []) (CS:Hid (∀ W:World,Calls Tryz.prog 92 #[.string sch] W fun e w'=>e = .returned (.bool true)∧w' = W)) (b0 b1 b2 b3 b4:Bool) (w:World)
  (C0:Hid (∀ (g:Nat) (W:World),W.cell? ⟨g,0,none⟩ = some (.string hst)→W.cell? ⟨g,1,none⟩ = some (.string ⟨#[34,60,62,92,94,96,123,124,125,47,63,35]⟩)→Calls Tryz.prog 142 #[.string hst,.func (Fn.func 186) #[] #[.pointer (some ⟨g,0,none⟩)]] W fun e w'=>e = .returned (.bool b0)∧w' = W))
  (C1:Hid (∀ (g:Nat) (W:World),W.cell? ⟨g,0,none⟩ = some (.string pth)→W.cell? ⟨g,1,none⟩ = some (.string ⟨#[34,60,62,92,94,96,123,124,125,63,35]⟩)→Calls Tryz.prog 142 #[.string pth,.func (Fn.func 186) #[] #[.pointer (some ⟨g,0,none⟩)]] W fun e w'=>e = .returned (.bool b1)∧w' = W))
  (C2:Hid (∀ (g:Nat) (W:World),W.cell? ⟨g,0,none⟩ = some (.string qry)→W.cell? ⟨g,1,none⟩ = some (.string ⟨#[34,60,62,92,94,96,123,124,125,35]⟩)→Calls Tryz.prog 142 #[.string qry,.func (Fn.func 186) #[] #[.pointer (some ⟨g,0,none⟩)]] W fun e w'=>e = .returned (.bool b2)∧w' = W))
  (C3:Hid (∀ (g:Nat) (W:World),W.cell? ⟨g,0,none⟩ = some (.string frg)→W.cell? ⟨g,1,none⟩ = some (.string ⟨#[34,60,62,92,94,96,123,124,125,35]⟩)→Calls Tryz.prog 142 #[.string frg,.func (Fn.func 186) #[] #[.pointer (some ⟨g,0,none⟩)]] W fun e w'=>e = .returned (.bool b3)∧w' = W))
  (C4:Hid (∀ W:World,Calls Tryz.prog 142 #[.string hst,.func (Fn.func 187) #[] #[]] W fun e w'=>e = .returned (.bool b4)∧w' = W)) :
  Calls Tryz.prog 145 #[.agg #[.string sch,.bool hh,.string hst,.string pth,.bool hq,.string qry,.bool hf,.string frg]] w fun e w'=>e = .returned (.bool (tlB b0 b1 b2 b3 b4 0))∧Below w.heap.size w w':=by
 obtain ⟨R,hR⟩:∃ R,tlB b0 b1 b2 b3 b4 0 = R:=⟨_,rfl⟩
 rw [hR]
 have HR:Hid (tlB b0 b1 b2 b3 b4 0 = R):=hR
 clear hR
 have he:=bempty_no sch hne
 clear hne
 go_enter Tryz.func145,Tryz.ntmps145
 go_wp2_with fail
 refine (CS.out _).mono ?_
 rintro e w' ⟨rfl,hw'⟩
 have hw'':=hw'.symm
 subst hw''
 clear CS
 go_wp2
 obtain ⟨w9,hw9⟩:∃ W,W = w.alloc (.cells #[.string sch,.bool hh,.string hst,.string pth,.bool hq,.string qry,.bool hf,.string frg] 85):=⟨_,rfl⟩
 have hb9:Below w.heap.size w w9:=by rw [hw9];exact (Below.refl _ _).alloc (Nat.le_refl _) _
 have hs9:w9.heap.size = w.heap.size + 1:=by rw [hw9];simp
 have hc9:w9.cell? ⟨w.heap.size,2,none⟩ = some (.string hst):=by rw [hw9];simp
 go_loopw [27] (fun iv wr=>∃ k:Nat,k≤4∧iv = .int .i64 k∧Below w9.heap.size w9 wr∧Hid (tlB b0 b1 b2 b3 b4 k = R)) (fun iv _=>4 - (intOf iv).toNat)
 case atStart=>exact ⟨0,Nat.zero_le _,rfl,by rw [hw9];exact Below.refl _ _,HR⟩
 case round =>
  obtain ⟨k,hk,rfl,hbel,HK⟩:=hrel
  have hsz:=hbel.size
  rcases (show k = 0 ∨ k = 1 ∨ k = 2 ∨ k = 3 ∨ k = 4 by omega) with rfl | rfl | rfl | rfl | rfl
  ·cases b0 with
   | false =>
    have HN:Hid (R = false):=by unfold Hid;rw [← HK.out];rfl
    clear HK HR
    have hix:∀ W:World,(Instr.index 197 (.agg #[.string hst,.string ⟨#[34,60,62,92,94,96,123,124,125,47,63,35]⟩,.string pth,.string ⟨#[34,60,62,92,94,96,123,124,125,63,35]⟩,.string qry,.string ⟨#[34,60,62,92,94,96,123,124,125,35]⟩,.string frg,.string ⟨#[34,60,62,92,94,96,123,124,125,35]⟩]) (.int .i64 0)).run Tryz.prog W = .ok (.agg #[.string hst,.string ⟨#[34,60,62,92,94,96,123,124,125,47,63,35]⟩]) W:=fun W=>by kernel_rfl
    go_wp2_with fail
    refine (C0.out wr.heap.size _ ?_ ?_).mono ?_
    ·simp
    ·simp
    rintro e w' ⟨rfl,hw'⟩
    have hw'':=hw'.symm
    subst hw''
    go_wp2
    go_ret
    exact ⟨by rw [HN.out];rfl,hb9.trans ((hbel.alloc hsz _).mono hb9.size)⟩
   | true =>
    have HN:Hid (tlB true b1 b2 b3 b4 1 = R):=by unfold Hid;rw [← HK.out];rfl
    clear HK HR
    have hix:∀ W:World,(Instr.index 197 (.agg #[.string hst,.string ⟨#[34,60,62,92,94,96,123,124,125,47,63,35]⟩,.string pth,.string ⟨#[34,60,62,92,94,96,123,124,125,63,35]⟩,.string qry,.string ⟨#[34,60,62,92,94,96,123,124,125,35]⟩,.string frg,.string ⟨#[34,60,62,92,94,96,123,124,125,35]⟩]) (.int .i64 0)).run Tryz.prog W = .ok (.agg #[.string hst,.string ⟨#[34,60,62,92,94,96,123,124,125,47,63,35]⟩]) W:=fun W=>by kernel_rfl
    go_wp2_with fail
    refine (C0.out wr.heap.size _ ?_ ?_).mono ?_
    ·simp
    ·simp
    rintro e w' ⟨rfl,hw'⟩
    have hw'':=hw'.symm
    subst hw''
    go_wp2
    go_roundw
    case rel=>exact ⟨1,by omega,by go_num,hbel.alloc hsz _,HN⟩
    case measure=>simp [intOf]
  ·cases b1 with
   | false =>
    have HN:Hid (R = false):=by unfold Hid;rw [← HK.out];rfl
    clear HK HR
    have hix:∀ W:World,(Instr.index 197 (.agg #[.string hst,.string ⟨#[34,60,62,92,94,96,123,124,125,47,63,35]⟩,.string pth,.string ⟨#[34,60,62,92,94,96,123,124,125,63,35]⟩,.string qry,.string ⟨#[34,60,62,92,94,96,123,124,125,35]⟩,.string frg,.string ⟨#[34,60,62,92,94,96,123,124,125,35]⟩]) (.int .i64 1)).run Tryz.prog W = .ok (.agg #[.string pth,.string ⟨#[34,60,62,92,94,96,123,124,125,63,35]⟩]) W:=fun W=>by kernel_rfl
    go_wp2_with fail
    refine (C1.out wr.heap.size _ ?_ ?_).mono ?_
    ·simp
    ·simp
    rintro e w' ⟨rfl,hw'⟩
    have hw'':=hw'.symm
    subst hw''
    go_wp2
    go_ret
    exact ⟨by rw [HN.out];rfl,hb9.trans ((hbel.alloc hsz _).mono hb9.size)⟩
   | true =>
    have HN:Hid (tlB b0 true b2 b3 b4 2 = R):=by unfold Hid;rw [← HK.out];rfl
    clear HK HR
    have hix:∀ W:World,(Instr.index 197 (.agg #[.string hst,.string ⟨#[34,60,62,92,94,96,123,124,125,47,63,35]⟩,.string pth,.string ⟨#[34,60,62,92,94,96,123,124,125,63,35]⟩,.string qry,.string ⟨#[34,60,62,92,94,96,123,124,125,35]⟩,.string frg,.string ⟨#[34,60,62,92,94,96,123,124,125,35]⟩]) (.int .i64 1)).run Tryz.prog W = .ok (.agg #[.string pth,.string ⟨#[34,60,62,92,94,96,123,124,125,63,35]⟩]) W:=fun W=>by kernel_rfl
    go_wp2_with fail
    refine (C1.out wr.heap.size _ ?_ ?_).mono ?_
    ·simp
    ·simp
    rintro e w' ⟨rfl,hw'⟩
    have hw'':=hw'.symm
    subst hw''
    go_wp2
    go_roundw
    case rel=>exact ⟨2,by omega,by go_num,hbel.alloc hsz _,HN⟩
    case measure=>simp [intOf]
  ·cases b2 with
   | false =>
    have HN:Hid (R = false):=by unfold Hid;rw [← HK.out];rfl
    clear HK HR
    have hix:∀ W:World,(Instr.index 197 (.agg #[.string hst,.string ⟨#[34,60,62,92,94,96,123,124,125,47,63,35]⟩,.string pth,.string ⟨#[34,60,62,92,94,96,123,124,125,63,35]⟩,.string qry,.string ⟨#[34,60,62,92,94,96,123,124,125,35]⟩,.string frg,.string ⟨#[34,60,62,92,94,96,123,124,125,35]⟩]) (.int .i64 2)).run Tryz.prog W = .ok (.agg #[.string qry,.string ⟨#[34,60,62,92,94,96,123,124,125,35]⟩]) W:=fun W=>by kernel_rfl
    go_wp2_with fail
    refine (C2.out wr.heap.size _ ?_ ?_).mono ?_
    ·simp
    ·simp
    rintro e w' ⟨rfl,hw'⟩
    have hw'':=hw'.symm
    subst hw''
    go_wp2
    go_ret
    exact ⟨by rw [HN.out];rfl,hb9.trans ((hbel.alloc hsz _).mono hb9.size)⟩
   | true =>
    have HN:Hid (tlB b0 b1 true b3 b4 3 = R):=by unfold Hid;rw [← HK.out];rfl
    clear HK HR
    have hix:∀ W:World,(Instr.index 197 (.agg #[.string hst,.string ⟨#[34,60,62,92,94,96,123,124,125,47,63,35]⟩,.string pth,.string ⟨#[34,60,62,92,94,96,123,124,125,63,35]⟩,.string qry,.string ⟨#[34,60,62,92,94,96,123,124,125,35]⟩,.string frg,.string ⟨#[34,60,62,92,94,96,123,124,125,35]⟩]) (.int .i64 2)).run Tryz.prog W = .ok (.agg #[.string qry,.string ⟨#[34,60,62,92,94,96,123,124,125,35]⟩]) W:=fun W=>by kernel_rfl
    go_wp2_with fail
    refine (C2.out wr.heap.size _ ?_ ?_).mono ?_
    ·simp
    ·simp
    rintro e w' ⟨rfl,hw'⟩
    have hw'':=hw'.symm
    subst hw''
    go_wp2
    go_roundw
    case rel=>exact ⟨3,by omega,by go_num,hbel.alloc hsz _,HN⟩
    case measure=>simp [intOf]
  ·cases b3 with
   | false =>
    have HN:Hid (R = false):=by unfold Hid;rw [← HK.out];rfl
    clear HK HR
    have hix:∀ W:World,(Instr.index 197 (.agg #[.string hst,.string ⟨#[34,60,62,92,94,96,123,124,125,47,63,35]⟩,.string pth,.string ⟨#[34,60,62,92,94,96,123,124,125,63,35]⟩,.string qry,.string ⟨#[34,60,62,92,94,96,123,124,125,35]⟩,.string frg,.string ⟨#[34,60,62,92,94,96,123,124,125,35]⟩]) (.int .i64 3)).run Tryz.prog W = .ok (.agg #[.string frg,.string ⟨#[34,60,62,92,94,96,123,124,125,35]⟩]) W:=fun W=>by kernel_rfl
    go_wp2_with fail
    refine (C3.out wr.heap.size _ ?_ ?_).mono ?_
    ·simp
    ·simp
    rintro e w' ⟨rfl,hw'⟩
    have hw'':=hw'.symm
    subst hw''
    go_wp2
    go_ret
    exact ⟨by rw [HN.out];rfl,hb9.trans ((hbel.alloc hsz _).mono hb9.size)⟩
   | true =>
    have HN:Hid (tlB b0 b1 b2 true b4 4 = R):=by unfold Hid;rw [← HK.out];rfl
    clear HK HR
    have hix:∀ W:World,(Instr.index 197 (.agg #[.string hst,.string ⟨#[34,60,62,92,94,96,123,124,125,47,63,35]⟩,.string pth,.string ⟨#[34,60,62,92,94,96,123,124,125,63,35]⟩,.string qry,.string ⟨#[34,60,62,92,94,96,123,124,125,35]⟩,.string frg,.string ⟨#[34,60,62,92,94,96,123,124,125,35]⟩]) (.int .i64 3)).run Tryz.prog W = .ok (.agg #[.string frg,.string ⟨#[34,60,62,92,94,96,123,124,125,35]⟩]) W:=fun W=>by kernel_rfl
    go_wp2_with fail
    refine (C3.out wr.heap.size _ ?_ ?_).mono ?_
    ·simp
    ·simp
    rintro e w' ⟨rfl,hw'⟩
    have hw'':=hw'.symm
    subst hw''
    go_wp2
    go_roundw
    case rel=>exact ⟨4,by omega,by go_num,hbel.alloc hsz _,HN⟩
    case measure=>simp [intOf]
  ·have HN:Hid (R = b4):=by unfold Hid;rw [← HK.out];rfl
   have hc8:wr.cell? ⟨w.heap.size,2,none⟩ = some (.string hst):=(hbel.cell (p:=⟨w.heap.size,2,none⟩) (by simp;omega)).trans hc9
   clear HK HR hc9
   go_wp2_with fail
   refine (C4.out _).mono ?_
   rintro e w' ⟨rfl,hw'⟩
   have hw'':=hw'.symm
   subst hw''
   go_wp2
   go_ret
   exact ⟨by rw [HN.out];rfl,hb9.trans (hbel.mono hb9.size)⟩
theorem writ_n (sch hst pth qry frg:ByteArray) (hh hq hf:Bool) (hne:sch.data.toList ≠ []) (CS:Hid (∀ W:World,Calls Tryz.prog 92 #[.string sch] W fun e w'=>e = .returned (.bool false)∧w' = W)) (w:World) :
  Calls Tryz.prog 145 #[.agg #[.string sch,.bool hh,.string hst,.string pth,.bool hq,.string qry,.bool hf,.string frg]] w fun e w'=>e = .returned (.bool false)∧Below w.heap.size w w':=by
 have he:=bempty_no sch hne
 clear hne
 go_enter Tryz.func145,Tryz.ntmps145
 go_wp2_with fail
 refine (CS.out _).mono ?_
 rintro e w' ⟨rfl,hw'⟩
 have hw'':=hw'.symm
 subst hw''
 clear CS
 go_wp2
 go_ret
 exact ⟨rfl,(Below.refl _ _).alloc (Nat.le_refl _) _⟩
theorem uwritten_any (u:UV) (hs:u.short 1000000) (w:World) :
  Calls Tryz.prog 145 #[u.v] w fun e w'=>e = .returned (.bool (wrtU u.l))∧Below w.heap.size w w':=by
 rw [wrtU_eq]
 obtain ⟨sch,hh,hst,pth,hq,qry,hf,frg⟩:=u
 obtain ⟨h1,h2,h3,h4,h5⟩:=hs
 simp only at h1 h2 h3 h4 h5
 show Calls _ _ #[.agg #[.string sch,.bool hh,.string hst,.string pth,.bool hq,.string qry,.bool hf,.string frg]] w fun e w'=>e = .returned (.bool ((sch.data.toList.isEmpty || schemeS sch.data.toList) && wrtB (UV.l ⟨sch,hh,hst,pth,hq,qry,hf,frg⟩)))∧Below w.heap.size w w'
 by_cases hne:sch.data.toList = []
 ·obtain rfl:=bempty_yes sch hne
  refine writ_e hst pth qry frg hh hq hf _ _ _ _ _ w ?_ ?_ ?_ ?_ ?_
  ·exact fun g W e0 e1=>every_cap g _ _ hostN rfl hst W h2 e0 e1
  ·exact fun g W e0 e1=>every_cap g _ _ pathN rfl pth W h3 e0 e1
  ·exact fun g W e0 e1=>every_cap g _ _ fragN rfl qry W h4 e0 e1
  ·exact fun g W e0 e1=>every_cap g _ _ fragN rfl frg W h5 e0 e1
  ·exact fun W=>every_low hst W h2
 ·rw [isE_no sch hne,Bool.false_or]
  have CS:=fun W=>uscheme_any sch W h1
  cases hsc:schemeS sch.data.toList with
  | false =>
   rw [hsc] at CS
   exact writ_n sch hst pth qry frg hh hq hf hne CS w
  | true =>
   rw [hsc] at CS
   rw [Bool.true_and]
   refine writ_s sch hst pth qry frg hh hq hf hne CS _ _ _ _ _ w ?_ ?_ ?_ ?_ ?_
   ·exact fun g W e0 e1=>every_cap g _ _ hostN rfl hst W h2 e0 e1
   ·exact fun g W e0 e1=>every_cap g _ _ pathN rfl pth W h3 e0 e1
   ·exact fun g W e0 e1=>every_cap g _ _ fragN rfl qry W h4 e0 e1
   ·exact fun g W e0 e1=>every_cap g _ _ fragN rfl frg W h5 e0 e1
   ·exact fun W=>every_low hst W h2
end Go.Proofs.YtbbfcbodhmeanaaGreatDoor



namespace Go.Proofs.YtbbfcbodhmeanaaGreatDoor
def small8 (l:List UInt8):List UInt8:=Lib.toLowerA l
end Go.Proofs.YtbbfcbodhmeanaaGreatDoor



namespace Go.Proofs.YtbbfcbodhmeanaaGreatDoor
theorem lower_num8 (c:UInt8):(Lib.lowerB c).toNat = if 65≤c.toNat∧c.toNat≤90 then c.toNat + 32 else c.toNat:=by
 have:∀ n:Fin 256,(Lib.lowerB (UInt8.ofNat n.val)).toNat = if 65≤n.val∧n.val≤90 then n.val + 32 else n.val:=by decide +kernel
 have h:=this ⟨c.toNat,c.toNat_lt⟩
 rwa [show UInt8.ofNat c.toNat = c from UInt8.ofNat_toNat] at h
theorem ascii_low (c:UInt8) (h:c.toNat < 128):(Lib.lowerB c).toNat < 128:=by
 rw [lower_num8];split <;> omega
end Go.Proofs.YtbbfcbodhmeanaaGreatDoor



namespace Go.Proofs.YtbbfcbodhmeanaaGreatDoor
theorem checkU_zero {u:UL} (h:checkU u = 0):longU u = false∧wrtU u = true∧frmU u = true∧(textU u).length≤120:=by
 unfold checkU at h
 split at h
 ·cases h
 ·split at h
  ·cases h
  ·split at h
   ·cases h
   ·split at h
    ·cases h
    ·rename_i h1 h2 h3 h4
     exact ⟨by simpa using h1,by simpa using h2,by simpa using h3,by omega⟩
theorem longU_false {u:UL} (h:longU u = false):u.sch.length≤120∧u.hst.length≤120∧u.pth.length≤120∧u.qry.length≤120∧u.frg.length≤120:=by
 unfold longU at h
 simp at h
 obtain ⟨⟨⟨⟨h1,h2⟩,h3⟩,h4⟩,h5⟩:=h
 exact ⟨h1,h2,h3,h4,h5⟩
theorem frmU_true {u:UL} (h:frmU u = true):(u.hh = false→u.hst = [])∧(u.hq = false→u.qry = [])∧(u.hf = false→u.frg = [])∧(u.hh = true→u.pth = [] ∨ preS u.pth = true)∧(u.hh = false→preSS u.pth = false∧(u.sch = []→cutC u.pth = none)):=by
 unfold frmU at h
 split at h
 ·cases h
 ·rename_i h1
  simp only [Bool.or_eq_true,Bool.and_eq_true,Bool.not_eq_true',List.isEmpty_eq_false_iff,not_or,not_and,Decidable.not_not] at h1
  obtain ⟨⟨a1,a2⟩,a3⟩:=h1
  refine ⟨fun e=>a1 e,fun e=>a2 e,fun e=>a3 e,fun e=>?_,fun e=>?_⟩
  ·rw [if_pos e] at h
   simpa using h
  ·rw [if_neg (by rw [e];simp)] at h
   split at h
   ·cases h
   ·rename_i h2
    unfold likeU at h2
    rw [e] at h2
    refine ⟨by simpa using h2,fun es=>?_⟩
    rw [es] at h
    simpa using h
theorem lead_out {b u:UL} (h:(leadU b u).2 = 0):checkU b = 0∧checkU u = 0∧b.sch.isEmpty = false∧likeU (undU (fullU b u)) = false∧checkU (undU (fullU b u)) = 0∧leadU b u = (undU (fullU b u),0):=by
 unfold leadU at h ⊢
 split at h
 ·exact absurd h (by assumption)
 ·split at h
  ·exact absurd h (by assumption)
  ·split at h
   ·cases h
   ·unfold endU at h ⊢
    split at h
    ·cases h
    ·unfold checkedU at h ⊢
     split at h
     ·rename_i h1 h2 h3 h4 h5
      have h1':checkU b = 0:=by omega
      have h2':checkU u = 0:=by omega
      have h4':likeU (undU (fullU b u)) = false:=by simpa using h4
      refine ⟨h1',h2',by simpa using h3,h4',h5,?_⟩
      rw [if_neg h1,if_neg h2,if_neg h3,if_neg h4,if_pos h5]
     ·exact absurd h (by assumption)
theorem comp_keeps (b u:UL):(compU b u).sch = b.sch∧(compU b u).hf = u.hf∧(compU b u).frg = u.frg:=by
 unfold compU
 repeat' split
 all_goals exact ⟨rfl,rfl,rfl⟩
theorem und_keeps (u:UL):(undU u).sch = u.sch∧(undU u).hf = u.hf∧(undU u).frg = u.frg∧(undU u).hh = u.hh∧(undU u).hst = u.hst∧(undU u).hq = u.hq∧(undU u).qry = u.qry:=by
 unfold undU
 split
 all_goals exact ⟨rfl,rfl,rfl,rfl,rfl,rfl,rfl⟩
theorem full_keeps (b u:UL) (hb:b.sch.isEmpty = false):(fullU b u).sch.isEmpty = false∧(fullU b u).hf = u.hf∧(fullU b u).frg = u.frg:=by
 unfold fullU
 split
 ·obtain ⟨a,b',c⟩:=comp_keeps b u
  rw [a,b',c]
  exact ⟨hb,rfl,rfl⟩
 ·rename_i h;exact ⟨by simpa using h,rfl,rfl⟩
theorem dirP_append (l:List UInt8):∃ m,l = dirP l ++ m:=by
 refine ⟨(l.reverse.takeWhile (fun c=>!(c == 47))).reverse,?_⟩
 unfold dirP
 rw [← List.reverse_append,List.takeWhile_append_dropWhile,List.reverse_reverse]
theorem preS_iff (l:List UInt8):preS l = true ↔ ∃ r,l = 47::r:=by
 cases l with
 | nil=>simp [preS]
 | cons a l=>simp [preS]
theorem dirP_pre (l:List UInt8) (h:preS l = true):preS (dirP l) = true:=by
 obtain ⟨r,rfl⟩:=(preS_iff l).1 h
 unfold dirP
 rw [List.reverse_cons,List.dropWhile_append]
 split
 ·rfl
 ·rw [List.reverse_append];rfl
theorem preS_append (a b:List UInt8) (h:preS a = true):preS (a ++ b) = true:=by
 obtain ⟨r,rfl⟩:=(preS_iff a).1 h
 rfl
theorem full_path (b u:UL) (hb:checkU b = 0) (hu:checkU u = 0) (h:(fullU b u).hh = true ∨ preS (fullU b u).pth = true):(fullU b u).pth = [] ∨ preS (fullU b u).pth = true:=by
 obtain ⟨_,_,fb,_⟩:=checkU_zero hb
 obtain ⟨_,_,fu,_⟩:=checkU_zero hu
 obtain ⟨_,_,_,b4,b5⟩:=frmU_true fb
 obtain ⟨_,_,_,u4,u5⟩:=frmU_true fu
 refine h.elim ?_ .inr
 clear h
 unfold fullU
 split
 ·unfold compU
  split
  ·intro h;exact u4 (by assumption)
  ·split
   ·split
    ·intro h;exact b4 h
    ·intro h;exact b4 h
   ·split
    ·intro h;right;assumption
    ·split
     ·intro h;right;rfl
     ·rename_i h1 h2 h3 h4
      intro h
      right
      have hh:b.hh = true:=h
      rw [hh] at h4
      rcases b4 hh with e | e
      ·rw [e] at h4;exact absurd rfl h4
      ·exact preS_append _ _ (dirP_pre _ e)
 ·intro h;exact u4 h
theorem lead_keeps {b u:UL} (h:(leadU b u).2 = 0):checkU (leadU b u).1 = 0∧(leadU b u).1.sch.isEmpty = false∧(leadU b u).1.hf = u.hf∧(leadU b u).1.frg = u.frg:=by
 obtain ⟨h1,h2,h3,h4,h5,h6⟩:=lead_out h
 have hk:=und_keeps (fullU b u)
 have hf:=full_keeps b u h3
 rw [h6]
 simp only
 refine ⟨h5,?_,?_,?_⟩
 ·rw [hk.1];exact hf.1
 ·rw [hk.2.1];exact hf.2.1
 ·rw [hk.2.2.1];exact hf.2.2
end Go.Proofs.YtbbfcbodhmeanaaGreatDoor

