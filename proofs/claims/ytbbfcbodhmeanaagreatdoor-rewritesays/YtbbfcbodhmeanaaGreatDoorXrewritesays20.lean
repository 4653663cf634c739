
import Derived.Test.YtbbfcbodhmeanaaGreatDoorXrewritesays19
namespace Go.Proofs.YtbbfcbodhmeanaaGreatDoor
open Go.RowKit
theorem find_sgn:∀ l:List UInt8,match l.findIdx? sgn with
  | none=>cutC l = none
  | some k=>k < l.length∧((l.getD k 0 = 58∧cutC l = some (l.take k,l.drop (k + 1))) ∨ (l.getD k 0 = 47∧cutC l = none))
 | []=>by simp [cutC]
 | c::r=>by
  have ih:=find_sgn r
  rw [List.findIdx?_cons]
  by_cases h1:c = 58
  ·subst h1
   rw [if_pos (by rfl)]
   simp [cutC]
  ·by_cases h2:c = 47
   ·subst h2
    rw [if_pos (by rfl)]
    simp [cutC]
   ·have hs:sgn c = false:=by unfold sgn;simp [h1,h2]
    rw [if_neg (by rw [hs];simp)]
    rw [show cutC (c::r) = (cutC r).map fun x=>(c::x.1,x.2) from by rw [cutC,if_neg h1,if_neg h2]]
    cases hf:r.findIdx? sgn with
    | none =>
     rw [hf] at ih
     simp only at ih
     simp only [Option.map_none]
     rw [ih];rfl
    | some k =>
     rw [hf] at ih
     simp only at ih
     simp only [Option.map_some]
     obtain ⟨hk,ih⟩:=ih
     refine ⟨by simp;omega,?_⟩
     rcases ih with ⟨e1,e2⟩ | ⟨e1,e2⟩
     ·refine .inl ⟨by simpa using e1,?_⟩
      rw [e2];simp
     ·refine .inr ⟨by simpa using e1,?_⟩
      rw [e2];rfl
def whereC (l:List UInt8):Int:=match cutC l with | none=>-1 | some x=>(x.1.length:Int)
theorem whereC_neg (l:List UInt8):decide (whereC l < 0) = (cutC l).isNone:=by
 unfold whereC
 cases cutC l with
 | none=>rfl
 | some x=>simp
set_option maxHeartbeats 1000000 in
theorem ucolon_any (s:ByteArray) (w:World) (hs:s.size≤1000000) :
  Calls Tryz.prog 90 #[.string s] w fun e w'=>e = .returned (.int .i64 (whereC s.data.toList))∧Below w.heap.size w w':=by
 have hf:=find_sgn s.data.toList
 have C:=iany_any s w hs
 unfold idxS at C
 cases hk:s.data.toList.findIdx? sgn with
 | none =>
  rw [hk] at hf C
  simp only at hf C
  have HN:Hid (whereC s.data.toList = -1):=by unfold Hid whereC;rw [hf]
  have HC:Hid (Calls Tryz.prog 139 #[.string s,.string ⟨#[58,47]⟩] w fun e w'=>e = .returned (.int .i64 (-1))∧Below w.heap.size w w'):=C
  clear C hf hk
  go_enter Tryz.func90,Tryz.ntmps90
  go_wp2_with fail
  refine HC.out.mono ?_
  rintro e w1 ⟨rfl,hb1⟩
  clear HC
  go_wp2
  go_ret
  exact ⟨by rw [HN.out];rfl,hb1⟩
 | some k =>
  rw [hk] at hf C
  simp only at hf C
  obtain ⟨hkl,hf⟩:=hf
  have hks:k < s.size:=by rw [Lib.size_eq];exact hkl
  have hki:(k:Int) < (s.size:Int):=by omega
  have hget:s.data.toList.getD k 0 = s[k]:=by
   rw [List.getD_eq_getElem?_getD,List.getElem?_eq_getElem hkl];rfl
  have HC:Hid (Calls Tryz.prog 139 #[.string s,.string ⟨#[58,47]⟩] w fun e w'=>e = .returned (.int .i64 (k:Int))∧Below w.heap.size w w'):=C
  clear C hk
  rw [hget] at hf
  rcases hf with ⟨e1,e2⟩ | ⟨e1,e2⟩
  ·have HN:Hid (whereC s.data.toList = (k:Int)):=by
    unfold Hid whereC;rw [e2]
    simp only [List.length_take]
    rw [Nat.min_eq_left (by omega)]
   have h47:((s[k].toNat:Int) == 47) = false:=by rw [e1];rfl
   clear e1 e2 hget hkl
   go_enter Tryz.func90,Tryz.ntmps90
   go_wp2_with fail
   refine HC.out.mono ?_
   rintro e w1 ⟨rfl,hb1⟩
   clear HC
   go_wp2
   go_ret
   exact ⟨by rw [HN.out];rfl,hb1⟩
  ·have HN:Hid (whereC s.data.toList = -1):=by unfold Hid whereC;rw [e2]
   have h47:((s[k].toNat:Int) == 47) = true:=by rw [e1];rfl
   clear e1 e2 hget hkl
   go_enter Tryz.func90,Tryz.ntmps90
   go_wp2_with fail
   refine HC.out.mono ?_
   rintro e w1 ⟨rfl,hb1⟩
   clear HC
   go_wp2
   go_ret
   exact ⟨by rw [HN.out];rfl,hb1⟩
def frmB (hh eh hq eq hf ef ep pre pp es cn:Bool):Bool :=
 if (!hh && !eh) || (!hq && !eq) || (!hf && !ef) then false
 else if hh then ep || pre
 else if !hh && pp then false else !es || cn
theorem frmU_eq (u:UL):frmU u = frmB u.hh u.hst.isEmpty u.hq u.qry.isEmpty u.hf u.frg.isEmpty u.pth.isEmpty (preS u.pth) (preSS u.pth) u.sch.isEmpty (cutC u.pth).isNone:=rfl
theorem isE_no (s:ByteArray) (h:s.data.toList ≠ []):s.data.toList.isEmpty = false:=by
 cases hs:s.data.toList with
 | nil=>exact absurd hs h
 | cons a l=>rfl
theorem pos_no (s:ByteArray) (h:s.data.toList ≠ []):0 < s.size:=by
 rw [Lib.size_eq];exact List.length_pos_iff.2 h
theorem preS_at (s:ByteArray) (h:0 < s.size):preS s.data.toList = ((s[0].toNat:Int) == 47):=by
 have e:=List.drop_eq_getElem_cons (i:=0) (l:=s.data.toList) (by rw [← Lib.size_eq];exact h)
 rw [List.drop_zero] at e
 unfold preS
 rw [e,List.head?_cons]
 show (some s[0] == some 47) = _
 rw [Bool.eq_iff_iff]
 simp only [beq_iff_eq,Option.some.injEq]
 rw [← UInt8.toNat_inj]
 constructor
 ·intro h;rw [h];rfl
 ·intro h
  have:s[0].toNat = 47:=by omega
  exact this
set_option maxHeartbeats 1000000 in
theorem form_TTT_e (sch hst qry frg:ByteArray) (w:World) :
  Calls Tryz.prog 146 #[.agg #[.string sch,.bool true,.string hst,.string ⟨#[]⟩,.bool true,.string qry,.bool true,.string frg]] w fun e w'=>e = .returned (.bool (frmU (UV.l ⟨sch,true,hst,⟨#[]⟩,true,qry,true,frg⟩)))∧Below w.heap.size w w':=by
 have HN:Hid (frmU (UV.l ⟨sch,true,hst,⟨#[]⟩,true,qry,true,frg⟩) = true):=by
  unfold Hid
  rw [frmU_eq]
  show frmB true (hst:ByteArray).data.toList.isEmpty true (qry:ByteArray).data.toList.isEmpty true (frg:ByteArray).data.toList.isEmpty (⟨#[]⟩:ByteArray).data.toList.isEmpty (preS (⟨#[]⟩:ByteArray).data.toList) (preSS (⟨#[]⟩:ByteArray).data.toList) (sch:ByteArray).data.toList.isEmpty (cutC (⟨#[]⟩:ByteArray).data.toList).isNone = _
  rfl
 go_enter Tryz.func146,Tryz.ntmps146
 go_wp2
 go_ret
 exact ⟨by rw [HN.out];rfl,(Below.refl _ _).alloc (Nat.le_refl _) _⟩
set_option maxHeartbeats 1000000 in
theorem form_TTT_p (sch hst pth qry frg:ByteArray) (h1:pth.data.toList ≠ []) (w:World) :
  Calls Tryz.prog 146 #[.agg #[.string sch,.bool true,.string hst,.string pth,.bool true,.string qry,.bool true,.string frg]] w fun e w'=>e = .returned (.bool (frmU (UV.l ⟨sch,true,hst,pth,true,qry,true,frg⟩)))∧Below w.heap.size w w':=by
 have hp:=pos_no pth h1
 have hpi:(0:Int) < (pth.size:Int):=by omega
 have HN:Hid (frmU (UV.l ⟨sch,true,hst,pth,true,qry,true,frg⟩) = ((pth[0].toNat:Int) == 47)):=by
  unfold Hid
  rw [frmU_eq]
  show frmB true (hst:ByteArray).data.toList.isEmpty true (qry:ByteArray).data.toList.isEmpty true (frg:ByteArray).data.toList.isEmpty (pth:ByteArray).data.toList.isEmpty (preS (pth:ByteArray).data.toList) (preSS (pth:ByteArray).data.toList) (sch:ByteArray).data.toList.isEmpty (cutC (pth:ByteArray).data.toList).isNone = _
  rw [isE_no pth h1,preS_at pth hp]
  rfl
 have he:=bempty_no pth h1
 clear h1
 go_enter Tryz.func146,Tryz.ntmps146
 go_wp2
 go_ret
 exact ⟨by rw [HN.out];rfl,(Below.refl _ _).alloc (Nat.le_refl _) _⟩
set_option maxHeartbeats 1000000 in
theorem form_TTE_e (sch hst qry:ByteArray) (w:World) :
  Calls Tryz.prog 146 #[.agg #[.string sch,.bool true,.string hst,.string ⟨#[]⟩,.bool true,.string qry,.bool false,.string ⟨#[]⟩]] w fun e w'=>e = .returned (.bool (frmU (UV.l ⟨sch,true,hst,⟨#[]⟩,true,qry,false,⟨#[]⟩⟩)))∧Below w.heap.size w w':=by
 have HN:Hid (frmU (UV.l ⟨sch,true,hst,⟨#[]⟩,true,qry,false,⟨#[]⟩⟩) = true):=by
  unfold Hid
  rw [frmU_eq]
  show frmB true (hst:ByteArray).data.toList.isEmpty true (qry:ByteArray).data.toList.isEmpty false (⟨#[]⟩:ByteArray).data.toList.isEmpty (⟨#[]⟩:ByteArray).data.toList.isEmpty (preS (⟨#[]⟩:ByteArray).data.toList) (preSS (⟨#[]⟩:ByteArray).data.toList) (sch:ByteArray).data.toList.isEmpty (cutC (⟨#[]⟩:ByteArray).data.toList).isNone = _
  rfl
 go_enter Tryz.func146,Tryz.ntmps146
 go_wp2
 go_ret
 exact ⟨by rw [HN.out];rfl,(Below.refl _ _).alloc (Nat.le_refl _) _⟩
set_option maxHeartbeats 1000000 in
theorem form_TTE_p (sch hst pth qry:ByteArray) (h1:pth.data.toList ≠ []) (w:World) :
  Calls Tryz.prog 146 #[.agg #[.string sch,.bool true,.string hst,.string pth,.bool true,.string qry,.bool false,.string ⟨#[]⟩]] w fun e w'=>e = .returned (.bool (frmU (UV.l ⟨sch,true,hst,pth,true,qry,false,⟨#[]⟩⟩)))∧Below w.heap.size w w':=by
 have hp:=pos_no pth h1
 have hpi:(0:Int) < (pth.size:Int):=by omega
 have HN:Hid (frmU (UV.l ⟨sch,true,hst,pth,true,qry,false,⟨#[]⟩⟩) = ((pth[0].toNat:Int) == 47)):=by
  unfold Hid
  rw [frmU_eq]
  show frmB true (hst:ByteArray).data.toList.isEmpty true (qry:ByteArray).data.toList.isEmpty false (⟨#[]⟩:ByteArray).data.toList.isEmpty (pth:ByteArray).data.toList.isEmpty (preS (pth:ByteArray).data.toList) (preSS (pth:ByteArray).data.toList) (sch:ByteArray).data.toList.isEmpty (cutC (pth:ByteArray).data.toList).isNone = _
  rw [isE_no pth h1,preS_at pth hp]
  rfl
 have he:=bempty_no pth h1
 clear h1
 go_enter Tryz.func146,Tryz.ntmps146
 go_wp2
 go_ret
 exact ⟨by rw [HN.out];rfl,(Below.refl _ _).alloc (Nat.le_refl _) _⟩
set_option maxHeartbeats 1000000 in
theorem form_TTN (sch hst pth qry frg:ByteArray) (h1:frg.data.toList ≠ []) (w:World) :
  Calls Tryz.prog 146 #[.agg #[.string sch,.bool true,.string hst,.string pth,.bool true,.string qry,.bool false,.string frg]] w fun e w'=>e = .returned (.bool (frmU (UV.l ⟨sch,true,hst,pth,true,qry,false,frg⟩)))∧Below w.heap.size w w':=by
 have HN:Hid (frmU (UV.l ⟨sch,true,hst,pth,true,qry,false,frg⟩) = false):=by
  unfold Hid
  rw [frmU_eq]
  show frmB true (hst:ByteArray).data.toList.isEmpty true (qry:ByteArray).data.toList.isEmpty false (frg:ByteArray).data.toList.isEmpty (pth:ByteArray).data.toList.isEmpty (preS (pth:ByteArray).data.toList) (preSS (pth:ByteArray).data.toList) (sch:ByteArray).data.toList.isEmpty (cutC (pth:ByteArray).data.toList).isNone = _
  rw [isE_no frg h1]
  rfl
 have he:=bempty_no frg h1
 clear h1
 go_enter Tryz.func146,Tryz.ntmps146
 go_wp2
 go_ret
 exact ⟨by rw [HN.out];rfl,(Below.refl _ _).alloc (Nat.le_refl _) _⟩
set_option maxHeartbeats 1000000 in
theorem form_TET_e (sch hst frg:ByteArray) (w:World) :
  Calls Tryz.prog 146 #[.agg #[.string sch,.bool true,.string hst,.string ⟨#[]⟩,.bool false,.string ⟨#[]⟩,.bool true,.string frg]] w fun e w'=>e = .returned (.bool (frmU (UV.l ⟨sch,true,hst,⟨#[]⟩,false,⟨#[]⟩,true,frg⟩)))∧Below w.heap.size w w':=by
 have HN:Hid (frmU (UV.l ⟨sch,true,hst,⟨#[]⟩,false,⟨#[]⟩,true,frg⟩) = true):=by
  unfold Hid
  rw [frmU_eq]
  show frmB true (hst:ByteArray).data.toList.isEmpty false (⟨#[]⟩:ByteArray).data.toList.isEmpty true (frg:ByteArray).data.toList.isEmpty (⟨#[]⟩:ByteArray).data.toList.isEmpty (preS (⟨#[]⟩:ByteArray).data.toList) (preSS (⟨#[]⟩:ByteArray).data.toList) (sch:ByteArray).data.toList.isEmpty (cutC (⟨#[]⟩:ByteArray).data.toList).isNone = _
  rfl
 go_enter Tryz.func146,Tryz.ntmps146
 go_wp2
 go_ret
 exact ⟨by rw [HN.out];rfl,(Below.refl _ _).alloc (Nat.le_refl _) _⟩
set_option maxHeartbeats 1000000 in
theorem form_TET_p (sch hst pth frg:ByteArray) (h1:pth.data.toList ≠ []) (w:World) :
  Calls Tryz.prog 146 #[.agg #[.string sch,.bool true,.string hst,.string pth,.bool false,.string ⟨#[]⟩,.bool true,.string frg]] w fun e w'=>e = .returned (.bool (frmU (UV.l ⟨sch,true,hst,pth,false,⟨#[]⟩,true,frg⟩)))∧Below w.heap.size w w':=by
 have hp:=pos_no pth h1
 have hpi:(0:Int) < (pth.size:Int):=by omega
 have HN:Hid (frmU (UV.l ⟨sch,true,hst,pth,false,⟨#[]⟩,true,frg⟩) = ((pth[0].toNat:Int) == 47)):=by
  unfold Hid
  rw [frmU_eq]
  show frmB true (hst:ByteArray).data.toList.isEmpty false (⟨#[]⟩:ByteArray).data.toList.isEmpty true (frg:ByteArray).data.toList.isEmpty (pth:ByteArray).data.toList.isEmpty (preS (pth:ByteArray).data.toList) (preSS (pth:ByteArray).data.toList) (sch:ByteArray).data.toList.isEmpty (cutC (pth:ByteArray).data.toList).isNone = _
  rw [isE_no pth h1,preS_at pth hp]
  rfl
 have he:=bempty_no pth h1
 clear h1
 go_enter Tryz.func146,Tryz.ntmps146
 go_wp2
 go_ret
 exact ⟨by rw [HN.out];rfl,(Below.refl _ _).alloc (Nat.le_refl _) _⟩
set_option maxHeartbeats 1000000 in
theorem form_TEE_e (sch hst:ByteArray) (w:World) :
  Calls Tryz.prog 146 #[.agg #[.string sch,.bool true,.string hst,.string ⟨#[]⟩,.bool false,.string ⟨#[]⟩,.bool false,.string ⟨#[]⟩]] w fun e w'=>e = .returned (.bool (frmU (UV.l ⟨sch,true,hst,⟨#[]⟩,false,⟨#[]⟩,false,⟨#[]⟩⟩)))∧Below w.heap.size w w':=by
 have HN:Hid (frmU (UV.l ⟨sch,true,hst,⟨#[]⟩,false,⟨#[]⟩,false,⟨#[]⟩⟩) = true):=by
  unfold Hid
  rw [frmU_eq]
  show frmB true (hst:ByteArray).data.toList.isEmpty false (⟨#[]⟩:ByteArray).data.toList.isEmpty false (⟨#[]⟩:ByteArray).data.toList.isEmpty (⟨#[]⟩:ByteArray).data.toList.isEmpty (preS (⟨#[]⟩:ByteArray).data.toList) (preSS (⟨#[]⟩:ByteArray).data.toList) (sch:ByteArray).data.toList.isEmpty (cutC (⟨#[]⟩:ByteArray).data.toList).isNone = _
  rfl
 go_enter Tryz.func146,Tryz.ntmps146
 go_wp2
 go_ret
 exact ⟨by rw [HN.out];rfl,(Below.refl _ _).alloc (Nat.le_refl _) _⟩
set_option maxHeartbeats 1000000 in
theorem form_TEE_p (sch hst pth:ByteArray) (h1:pth.data.toList ≠ []) (w:World) :
  Calls Tryz.prog 146 #[.agg #[.string sch,.bool true,.string hst,.string pth,.bool false,.string ⟨#[]⟩,.bool false,.string ⟨#[]⟩]] w fun e w'=>e = .returned (.bool (frmU (UV.l ⟨sch,true,hst,pth,false,⟨#[]⟩,false,⟨#[]⟩⟩)))∧Below w.heap.size w w':=by
 have hp:=pos_no pth h1
 have hpi:(0:Int) < (pth.size:Int):=by omega
 have HN:Hid (frmU (UV.l ⟨sch,true,hst,pth,false,⟨#[]⟩,false,⟨#[]⟩⟩) = ((pth[0].toNat:Int) == 47)):=by
  unfold Hid
  rw [frmU_eq]
  show frmB true (hst:ByteArray).data.toList.isEmpty false (⟨#[]⟩:ByteArray).data.toList.isEmpty false (⟨#[]⟩:ByteArray).data.toList.isEmpty (pth:ByteArray).data.toList.isEmpty (preS (pth:ByteArray).data.toList) (preSS (pth:ByteArray).data.toList) (sch:ByteArray).data.toList.isEmpty (cutC (pth:ByteArray).data.toList).isNone = _
  rw [isE_no pth h1,preS_at pth hp]
  rfl
 have he:=bempty_no pth h1
 clear h1
 go_enter Tryz.func146,Tryz.ntmps146
 go_wp2
 go_ret
 exact ⟨by rw [HN.out];rfl,(Below.refl _ _).alloc (Nat.le_refl _) _⟩
set_option maxHeartbeats 1000000 in
theorem form_TEN (sch hst pth frg:ByteArray) (h1:frg.data.toList ≠ []) (w:World) :
  Calls Tryz.prog 146 #[.agg #[.string sch,.bool true,.string hst,.string pth,.bool false,.string ⟨#[]⟩,.bool false,.string frg]] w fun e w'=>e = .returned (.bool (frmU (UV.l ⟨sch,true,hst,pth,false,⟨#[]⟩,false,frg⟩)))∧Below w.heap.size w w':=by
 have HN:Hid (frmU (UV.l ⟨sch,true,hst,pth,false,⟨#[]⟩,false,frg⟩) = false):=by
  unfold Hid
  rw [frmU_eq]
  show frmB true (hst:ByteArray).data.toList.isEmpty false (⟨#[]⟩:ByteArray).data.toList.isEmpty false (frg:ByteArray).data.toList.isEmpty (pth:ByteArray).data.toList.isEmpty (preS (pth:ByteArray).data.toList) (preSS (pth:ByteArray).data.toList) (sch:ByteArray).data.toList.isEmpty (cutC (pth:ByteArray).data.toList).isNone = _
  rw [isE_no frg h1]
  rfl
 have he:=bempty_no frg h1
 clear h1
 go_enter Tryz.func146,Tryz.ntmps146
 go_wp2
 go_ret
 exact ⟨by rw [HN.out];rfl,(Below.refl _ _).alloc (Nat.le_refl _) _⟩
set_option maxHeartbeats 1000000 in
theorem form_TN (sch hst pth qry frg:ByteArray) (hf:Bool) (h1:qry.data.toList ≠ []) (w:World) :
  Calls Tryz.prog 146 #[.agg #[.string sch,.bool true,.string hst,.string pth,.bool false,.string qry,.bool hf,.string frg]] w fun e w'=>e = .returned (.bool (frmU (UV.l ⟨sch,true,hst,pth,false,qry,hf,frg⟩)))∧Below w.heap.size w w':=by
 have HN:Hid (frmU (UV.l ⟨sch,true,hst,pth,false,qry,hf,frg⟩) = false):=by
  unfold Hid
  rw [frmU_eq]
  show frmB true (hst:ByteArray).data.toList.isEmpty false (qry:ByteArray).data.toList.isEmpty hf (frg:ByteArray).data.toList.isEmpty (pth:ByteArray).data.toList.isEmpty (preS (pth:ByteArray).data.toList) (preSS (pth:ByteArray).data.toList) (sch:ByteArray).data.toList.isEmpty (cutC (pth:ByteArray).data.toList).isNone = _
  rw [isE_no qry h1]
  rfl
 have he:=bempty_no qry h1
 clear h1
 go_enter Tryz.func146,Tryz.ntmps146
 go_wp2
 go_ret
 exact ⟨by rw [HN.out];rfl,(Below.refl _ _).alloc (Nat.le_refl _) _⟩
set_option maxHeartbeats 1000000 in
theorem form_ETT_l (sch pth qry frg:ByteArray) (hl:preSS pth.data.toList = true) (w:World) :
  Calls Tryz.prog 146 #[.agg #[.string sch,.bool false,.string ⟨#[]⟩,.string pth,.bool true,.string qry,.bool true,.string frg]] w fun e w'=>e = .returned (.bool (frmU (UV.l ⟨sch,false,⟨#[]⟩,pth,true,qry,true,frg⟩)))∧Below w.heap.size w w':=by
 have HN:Hid (frmU (UV.l ⟨sch,false,⟨#[]⟩,pth,true,qry,true,frg⟩) = false):=by
  unfold Hid
  rw [frmU_eq]
  show frmB false (⟨#[]⟩:ByteArray).data.toList.isEmpty true (qry:ByteArray).data.toList.isEmpty true (frg:ByteArray).data.toList.isEmpty (pth:ByteArray).data.toList.isEmpty (preS (pth:ByteArray).data.toList) (preSS (pth:ByteArray).data.toList) (sch:ByteArray).data.toList.isEmpty (cutC (pth:ByteArray).data.toList).isNone = _
  rw [hl]
  rfl
 have CL:Hid (∀ w,Calls Tryz.prog 97 #[.agg #[.string sch,.bool false,.string ⟨#[]⟩,.string pth,.bool true,.string qry,.bool true,.string frg]] w fun e w'=>e = .returned (.bool true)∧Below w.heap.size w w'):=fun w=>by
  have:=ulike_any sch ⟨#[]⟩ pth qry frg false true true w
  rw [hl] at this
  exact this
 clear hl
 go_enter Tryz.func146,Tryz.ntmps146
 go_wp2_with fail
 refine (CL.out _).mono ?_
 rintro e w1 ⟨rfl,hb1⟩
 have hbe1:Below w.heap.size w w1:=((Below.refl _ _).alloc (Nat.le_refl _) _).trans (hb1.mono (by simp))
 have hc0:w1.cell? ⟨w.heap.size,0,none⟩ = some (.string sch):=by rw [hb1.cell (p:=⟨w.heap.size,0,none⟩) (by simp)];simp
 have hc3:w1.cell? ⟨w.heap.size,3,none⟩ = some (.string pth):=by rw [hb1.cell (p:=⟨w.heap.size,3,none⟩) (by simp)];simp
 clear CL hb1
 go_wp2
 go_ret
 exact ⟨by rw [HN.out];rfl,hbe1⟩
set_option maxHeartbeats 1000000 in
theorem form_ETT_s (sch pth qry frg:ByteArray) (hl:preSS pth.data.toList = false) (h1:sch.data.toList ≠ []) (w:World) :
  Calls Tryz.prog 146 #[.agg #[.string sch,.bool false,.string ⟨#[]⟩,.string pth,.bool true,.string qry,.bool true,.string frg]] w fun e w'=>e = .returned (.bool (frmU (UV.l ⟨sch,false,⟨#[]⟩,pth,true,qry,true,frg⟩)))∧Below w.heap.size w w':=by
 have HN:Hid (frmU (UV.l ⟨sch,false,⟨#[]⟩,pth,true,qry,true,frg⟩) = true):=by
  unfold Hid
  rw [frmU_eq]
  show frmB false (⟨#[]⟩:ByteArray).data.toList.isEmpty true (qry:ByteArray).data.toList.isEmpty true (frg:ByteArray).data.toList.isEmpty (pth:ByteArray).data.toList.isEmpty (preS (pth:ByteArray).data.toList) (preSS (pth:ByteArray).data.toList) (sch:ByteArray).data.toList.isEmpty (cutC (pth:ByteArray).data.toList).isNone = _
  rw [hl,isE_no sch h1]
  rfl
 have CL:Hid (∀ w,Calls Tryz.prog 97 #[.agg #[.string sch,.bool false,.string ⟨#[]⟩,.string pth,.bool true,.string qry,.bool true,.string frg]] w fun e w'=>e = .returned (.bool false)∧Below w.heap.size w w'):=fun w=>by
  have:=ulike_any sch ⟨#[]⟩ pth qry frg false true true w
  rw [hl] at this
  exact this
 have he:=bempty_no sch h1
 clear hl h1
 go_enter Tryz.func146,Tryz.ntmps146
 go_wp2_with fail
 refine (CL.out _).mono ?_
 rintro e w1 ⟨rfl,hb1⟩
 have hbe1:Below w.heap.size w w1:=((Below.refl _ _).alloc (Nat.le_refl _) _).trans (hb1.mono (by simp))
 have hc0:w1.cell? ⟨w.heap.size,0,none⟩ = some (.string sch):=by rw [hb1.cell (p:=⟨w.heap.size,0,none⟩) (by simp)];simp
 have hc3:w1.cell? ⟨w.heap.size,3,none⟩ = some (.string pth):=by rw [hb1.cell (p:=⟨w.heap.size,3,none⟩) (by simp)];simp
 clear CL hb1
 go_wp2
 go_ret
 exact ⟨by rw [HN.out];rfl,hbe1⟩
set_option maxHeartbeats 1000000 in
theorem form_ETT_c (pth qry frg:ByteArray) (hl:preSS pth.data.toList = false) (hs:pth.size≤1000000) (w:World) :
  Calls Tryz.prog 146 #[.agg #[.string ⟨#[]⟩,.bool false,.string ⟨#[]⟩,.string pth,.bool true,.string qry,.bool true,.string frg]] w fun e w'=>e = .returned (.bool (frmU (UV.l ⟨⟨#[]⟩,false,⟨#[]⟩,pth,true,qry,true,frg⟩)))∧Below w.heap.size w w':=by
 have HN:Hid (frmU (UV.l ⟨⟨#[]⟩,false,⟨#[]⟩,pth,true,qry,true,frg⟩) = (cutC pth.data.toList).isNone):=by
  unfold Hid
  rw [frmU_eq]
  show frmB false (⟨#[]⟩:ByteArray).data.toList.isEmpty true (qry:ByteArray).data.toList.isEmpty true (frg:ByteArray).data.toList.isEmpty (pth:ByteArray).data.toList.isEmpty (preS (pth:ByteArray).data.toList) (preSS (pth:ByteArray).data.toList) (⟨#[]⟩:ByteArray).data.toList.isEmpty (cutC (pth:ByteArray).data.toList).isNone = _
  rw [hl]
  rfl
 have CL:Hid (∀ w,Calls Tryz.prog 97 #[.agg #[.string ⟨#[]⟩,.bool false,.string ⟨#[]⟩,.string pth,.bool true,.string qry,.bool true,.string frg]] w fun e w'=>e = .returned (.bool false)∧Below w.heap.size w w'):=fun w=>by
  have:=ulike_any ⟨#[]⟩ ⟨#[]⟩ pth qry frg false true true w
  rw [hl] at this
  exact this
 have CC:Hid (∀ w,Calls Tryz.prog 90 #[.string pth] w fun e w'=>e = .returned (.int .i64 (whereC pth.data.toList))∧Below w.heap.size w w'):=fun w=>ucolon_any pth w hs
 have HW:Hid (decide (whereC pth.data.toList < 0) = (cutC pth.data.toList).isNone):=whereC_neg _
 generalize whereC pth.data.toList = V at *
 clear hl
 go_enter Tryz.func146,Tryz.ntmps146
 go_wp2_with fail
 refine (CL.out _).mono ?_
 rintro e w1 ⟨rfl,hb1⟩
 have hbe1:Below w.heap.size w w1:=((Below.refl _ _).alloc (Nat.le_refl _) _).trans (hb1.mono (by simp))
 have hc0:w1.cell? ⟨w.heap.size,0,none⟩ = some (.string ⟨#[]⟩):=by rw [hb1.cell (p:=⟨w.heap.size,0,none⟩) (by simp)];simp
 have hc3:w1.cell? ⟨w.heap.size,3,none⟩ = some (.string pth):=by rw [hb1.cell (p:=⟨w.heap.size,3,none⟩) (by simp)];simp
 clear CL hb1
 go_wp2_with fail
 refine (CC.out _).mono ?_
 rintro e w2 ⟨rfl,hb2⟩
 have hbe2:Below w.heap.size w w2:=hbe1.trans (hb2.mono hbe1.size)
 clear CC hb2
 go_wp2
 go_ret
 exact ⟨by rw [HN.out,← HW.out];rfl,hbe2⟩
set_option maxHeartbeats 1000000 in
theorem form_ETE_l (sch pth qry:ByteArray) (hl:preSS pth.data.toList = true) (w:World) :
  Calls Tryz.prog 146 #[.agg #[.string sch,.bool false,.string ⟨#[]⟩,.string pth,.bool true,.string qry,.bool false,.string ⟨#[]⟩]] w fun e w'=>e = .returned (.bool (frmU (UV.l ⟨sch,false,⟨#[]⟩,pth,true,qry,false,⟨#[]⟩⟩)))∧Below w.heap.size w w':=by
 have HN:Hid (frmU (UV.l ⟨sch,false,⟨#[]⟩,pth,true,qry,false,⟨#[]⟩⟩) = false):=by
  unfold Hid
  rw [frmU_eq]
  show frmB false (⟨#[]⟩:ByteArray).data.toList.isEmpty true (qry:ByteArray).data.toList.isEmpty false (⟨#[]⟩:ByteArray).data.toList.isEmpty (pth:ByteArray).data.toList.isEmpty (preS (pth:ByteArray).data.toList) (preSS (pth:ByteArray).data.toList) (sch:ByteArray).data.toList.isEmpty (cutC (pth:ByteArray).data.toList).isNone = _
  rw [hl]
  rfl
 have CL:Hid (∀ w,Calls Tryz.prog 97 #[.agg #[.string sch,.bool false,.string ⟨#[]⟩,.string pth,.bool true,.string qry,.bool false,.string ⟨#[]⟩]] w fun e w'=>e = .returned (.bool true)∧Below w.heap.size w w'):=fun w=>by
  have:=ulike_any sch ⟨#[]⟩ pth qry ⟨#[]⟩ false true false w
  rw [hl] at this
  exact this
 clear hl
 go_enter Tryz.func146,Tryz.ntmps146
 go_wp2_with fail
 refine (CL.out _).mono ?_
 rintro e w1 ⟨rfl,hb1⟩
 have hbe1:Below w.heap.size w w1:=((Below.refl _ _).alloc (Nat.le_refl _) _).trans (hb1.mono (by simp))
 have hc0:w1.cell? ⟨w.heap.size,0,none⟩ = some (.string sch):=by rw [hb1.cell (p:=⟨w.heap.size,0,none⟩) (by simp)];simp
 have hc3:w1.cell? ⟨w.heap.size,3,none⟩ = some (.string pth):=by rw [hb1.cell (p:=⟨w.heap.size,3,none⟩) (by simp)];simp
 clear CL hb1
 go_wp2
 go_ret
 exact ⟨by rw [HN.out];rfl,hbe1⟩
set_option maxHeartbeats 1000000 in
theorem form_ETE_s (sch pth qry:ByteArray) (hl:preSS pth.data.toList = false) (h1:sch.data.toList ≠ []) (w:World) :
  Calls Tryz.prog 146 #[.agg #[.string sch,.bool false,.string ⟨#[]⟩,.string pth,.bool true,.string qry,.bool false,.string ⟨#[]⟩]] w fun e w'=>e = .returned (.bool (frmU (UV.l ⟨sch,false,⟨#[]⟩,pth,true,qry,false,⟨#[]⟩⟩)))∧Below w.heap.size w w':=by
 have HN:Hid (frmU (UV.l ⟨sch,false,⟨#[]⟩,pth,true,qry,false,⟨#[]⟩⟩) = true):=by
  unfold Hid
  rw [frmU_eq]
  show frmB false (⟨#[]⟩:ByteArray).data.toList.isEmpty true (qry:ByteArray).data.toList.isEmpty false (⟨#[]⟩:ByteArray).data.toList.isEmpty (pth:ByteArray).data.toList.isEmpty (preS (pth:ByteArray).data.toList) (preSS (pth:ByteArray).data.toList) (sch:ByteArray).data.toList.isEmpty (cutC (pth:ByteArray).data.toList).isNone = _
  rw [hl,isE_no sch h1]
  rfl
 have CL:Hid (∀ w,Calls Tryz.prog 97 #[.agg #[.string sch,.bool false,.string ⟨#[]⟩,.string pth,.bool true,.string qry,.bool false,.string ⟨#[]⟩]] w fun e w'=>e = .returned (.bool false)∧Below w.heap.size w w'):=fun w=>by
  have:=ulike_any sch ⟨#[]⟩ pth qry ⟨#[]⟩ false true false w
  rw [hl] at this
  exact this
 have he:=bempty_no sch h1
 clear hl h1
 go_enter Tryz.func146,Tryz.ntmps146
 go_wp2_with fail
 refine (CL.out _).mono ?_
 rintro e w1 ⟨rfl,hb1⟩
 have hbe1:Below w.heap.size w w1:=((Below.refl _ _).alloc (Nat.le_refl _) _).trans (hb1.mono (by simp))
 have hc0:w1.cell? ⟨w.heap.size,0,none⟩ = some (.string sch):=by rw [hb1.cell (p:=⟨w.heap.size,0,none⟩) (by simp)];simp
 have hc3:w1.cell? ⟨w.heap.size,3,none⟩ = some (.string pth):=by rw [hb1.cell (p:=⟨w.heap.size,3,none⟩) (by simp)];simp
 clear CL hb1
 go_wp2
 go_ret
 exact ⟨by rw [HN.out];rfl,hbe1⟩
set_option maxHeartbeats 1000000 in
theorem form_ETE_c (pth qry:ByteArray) (hl:preSS pth.data.toList = false) (hs:pth.size≤1000000) (w:World) :
  Calls Tryz.prog 146 #[.agg #[.string ⟨#[]⟩,.bool false,.string ⟨#[]⟩,.string pth,.bool true,.string qry,.bool false,.string ⟨#[]⟩]] w fun e w'=>e = .returned (.bool (frmU (UV.l ⟨⟨#[]⟩,false,⟨#[]⟩,pth,true,qry,false,⟨#[]⟩⟩)))∧Below w.heap.size w w':=by
 have HN:Hid (frmU (UV.l ⟨⟨#[]⟩,false,⟨#[]⟩,pth,true,qry,false,⟨#[]⟩⟩) = (cutC pth.data.toList).isNone):=by
  unfold Hid
  rw [frmU_eq]
  show frmB false (⟨#[]⟩:ByteArray).data.toList.isEmpty true (qry:ByteArray).data.toList.isEmpty false (⟨#[]⟩:ByteArray).data.toList.isEmpty (pth:ByteArray).data.toList.isEmpty (preS (pth:ByteArray).data.toList) (preSS (pth:ByteArray).data.toList) (⟨#[]⟩:ByteArray).data.toList.isEmpty (cutC (pth:ByteArray).data.toList).isNone = _
  rw [hl]
  rfl
 have CL:Hid (∀ w,Calls Tryz.prog 97 #[.agg #[.string ⟨#[]⟩,.bool false,.string ⟨#[]⟩,.string pth,.bool true,.string qry,.bool false,.string ⟨#[]⟩]] w fun e w'=>e = .returned (.bool false)∧Below w.heap.size w w'):=fun w=>by
  have:=ulike_any ⟨#[]⟩ ⟨#[]⟩ pth qry ⟨#[]⟩ false true false w
  rw [hl] at this
  exact this
 have CC:Hid (∀ w,Calls Tryz.prog 90 #[.string pth] w fun e w'=>e = .returned (.int .i64 (whereC pth.data.toList))∧Below w.heap.size w w'):=fun w=>ucolon_any pth w hs
 have HW:Hid (decide (whereC pth.data.toList < 0) = (cutC pth.data.toList).isNone):=whereC_neg _
 generalize whereC pth.data.toList = V at *
 clear hl
 go_enter Tryz.func146,Tryz.ntmps146
 go_wp2_with fail
 refine (CL.out _).mono ?_
 rintro e w1 ⟨rfl,hb1⟩
 have hbe1:Below w.heap.size w w1:=((Below.refl _ _).alloc (Nat.le_refl _) _).trans (hb1.mono (by simp))
 have hc0:w1.cell? ⟨w.heap.size,0,none⟩ = some (.string ⟨#[]⟩):=by rw [hb1.cell (p:=⟨w.heap.size,0,none⟩) (by simp)];simp
 have hc3:w1.cell? ⟨w.heap.size,3,none⟩ = some (.string pth):=by rw [hb1.cell (p:=⟨w.heap.size,3,none⟩) (by simp)];simp
 clear CL hb1
 go_wp2_with fail
 refine (CC.out _).mono ?_
 rintro e w2 ⟨rfl,hb2⟩
 have hbe2:Below w.heap.size w w2:=hbe1.trans (hb2.mono hbe1.size)
 clear CC hb2
 go_wp2
 go_ret
 exact ⟨by rw [HN.out,← HW.out];rfl,hbe2⟩
set_option maxHeartbeats 1000000 in
theorem form_ETN (sch pth qry frg:ByteArray) (h1:frg.data.toList ≠ []) (w:World) :
  Calls Tryz.prog 146 #[.agg #[.string sch,.bool false,.string ⟨#[]⟩,.string pth,.bool true,.string qry,.bool false,.string frg]] w fun e w'=>e = .returned (.bool (frmU (UV.l ⟨sch,false,⟨#[]⟩,pth,true,qry,false,frg⟩)))∧Below w.heap.size w w':=by
 have HN:Hid (frmU (UV.l ⟨sch,false,⟨#[]⟩,pth,true,qry,false,frg⟩) = false):=by
  unfold Hid
  rw [frmU_eq]
  show frmB false (⟨#[]⟩:ByteArray).data.toList.isEmpty true (qry:ByteArray).data.toList.isEmpty false (frg:ByteArray).data.toList.isEmpty (pth:ByteArray).data.toList.isEmpty (preS (pth:ByteArray).data.toList) (preSS (pth:ByteArray).data.toList) (sch:ByteArray).data.toList.isEmpty (cutC (pth:ByteArray).data.toList).isNone = _
  rw [isE_no frg h1]
  rfl
 have he:=bempty_no frg h1
 clear h1
 go_enter Tryz.func146,Tryz.ntmps146
 go_wp2
 go_ret
 exact ⟨by rw [HN.out];rfl,(Below.refl _ _).alloc (Nat.le_refl _) _⟩
set_option maxHeartbeats 1000000 in
theorem form_EET_l (sch pth frg:ByteArray) (hl:preSS pth.data.toList = true) (w:World) :
  Calls Tryz.prog 146 #[.agg #[.string sch,.bool false,.string ⟨#[]⟩,.string pth,.bool false,.string ⟨#[]⟩,.bool true,.string frg]] w fun e w'=>e = .returned (.bool (frmU (UV.l ⟨sch,false,⟨#[]⟩,pth,false,⟨#[]⟩,true,frg⟩)))∧Below w.heap.size w w':=by
 have HN:Hid (frmU (UV.l ⟨sch,false,⟨#[]⟩,pth,false,⟨#[]⟩,true,frg⟩) = false):=by
  unfold Hid
  rw [frmU_eq]
  show frmB false (⟨#[]⟩:ByteArray).data.toList.isEmpty false (⟨#[]⟩:ByteArray).data.toList.isEmpty true (frg:ByteArray).data.toList.isEmpty (pth:ByteArray).data.toList.isEmpty (preS (pth:ByteArray).data.toList) (preSS (pth:ByteArray).data.toList) (sch:ByteArray).data.toList.isEmpty (cutC (pth:ByteArray).data.toList).isNone = _
  rw [hl]
  rfl
 have CL:Hid (∀ w,Calls Tryz.prog 97 #[.agg #[.string sch,.bool false,.string ⟨#[]⟩,.string pth,.bool false,.string ⟨#[]⟩,.bool true,.string frg]] w fun e w'=>e = .returned (.bool true)∧Below w.heap.size w w'):=fun w=>by
  have:=ulike_any sch ⟨#[]⟩ pth ⟨#[]⟩ frg false false true w
  rw [hl] at this
  exact this
 clear hl
 go_enter Tryz.func146,Tryz.ntmps146
 go_wp2_with fail
 refine (CL.out _).mono ?_
 rintro e w1 ⟨rfl,hb1⟩
 have hbe1:Below w.heap.size w w1:=((Below.refl _ _).alloc (Nat.le_refl _) _).trans (hb1.mono (by simp))
 have hc0:w1.cell? ⟨w.heap.size,0,none⟩ = some (.string sch):=by rw [hb1.cell (p:=⟨w.heap.size,0,none⟩) (by simp)];simp
 have hc3:w1.cell? ⟨w.heap.size,3,none⟩ = some (.string pth):=by rw [hb1.cell (p:=⟨w.heap.size,3,none⟩) (by simp)];simp
 clear CL hb1
 go_wp2
 go_ret
 exact ⟨by rw [HN.out];rfl,hbe1⟩
set_option maxHeartbeats 1000000 in
theorem form_EET_s (sch pth frg:ByteArray) (hl:preSS pth.data.toList = false) (h1:sch.data.toList ≠ []) (w:World) :
  Calls Tryz.prog 146 #[.agg #[.string sch,.bool false,.string ⟨#[]⟩,.string pth,.bool false,.string ⟨#[]⟩,.bool true,.string frg]] w fun e w'=>e = .returned (.bool (frmU (UV.l ⟨sch,false,⟨#[]⟩,pth,false,⟨#[]⟩,true,frg⟩)))∧Below w.heap.size w w':=by
 have HN:Hid (frmU (UV.l ⟨sch,false,⟨#[]⟩,pth,false,⟨#[]⟩,true,frg⟩) = true):=by
  unfold Hid
  rw [frmU_eq]
  show frmB false (⟨#[]⟩:ByteArray).data.toList.isEmpty false (⟨#[]⟩:ByteArray).data.toList.isEmpty true (frg:ByteArray).data.toList.isEmpty (pth:ByteArray).data.toList.isEmpty (preS (pth:ByteArray).data.toList) (preSS (pth:ByteArray).data.toList) (sch:ByteArray).data.toList.isEmpty (cutC (pth:ByteArray).data.toList).isNone = _
  rw [hl,isE_no sch h1]
  rfl
 have CL:Hid (∀ w,Calls Tryz.prog 97 #[.agg #[.string sch,.bool false,.string ⟨#[]⟩,.string pth,.bool false,.string ⟨#[]⟩,.bool true,.string frg]] w fun e w'=>e = .returned (.bool false)∧Below w.heap.size w w'):=fun w=>by
  have:=ulike_any sch ⟨#[]⟩ pth ⟨#[]⟩ frg false false true w
  rw [hl] at this
  exact this
 have he:=bempty_no sch h1
 clear hl h1
 go_enter Tryz.func146,Tryz.ntmps146
 go_wp2_with fail
 refine (CL.out _).mono ?_
 rintro e w1 ⟨rfl,hb1⟩
 have hbe1:Below w.heap.size w w1:=((Below.refl _ _).alloc (Nat.le_refl _) _).trans (hb1.mono (by simp))
 have hc0:w1.cell? ⟨w.heap.size,0,none⟩ = some (.string sch):=by rw [hb1.cell (p:=⟨w.heap.size,0,none⟩) (by simp)];simp
 have hc3:w1.cell? ⟨w.heap.size,3,none⟩ = some (.string pth):=by rw [hb1.cell (p:=⟨w.heap.size,3,none⟩) (by simp)];simp
 clear CL hb1
 go_wp2
 go_ret
 exact ⟨by rw [HN.out];rfl,hbe1⟩
set_option maxHeartbeats 1000000 in
theorem form_EET_c (pth frg:ByteArray) (hl:preSS pth.data.toList = false) (hs:pth.size≤1000000) (w:World) :
  Calls Tryz.prog 146 #[.agg #[.string ⟨#[]⟩,.bool false,.string ⟨#[]⟩,.string pth,.bool false,.string ⟨#[]⟩,.bool true,.string frg]] w fun e w'=>e = .returned (.bool (frmU (UV.l ⟨⟨#[]⟩,false,⟨#[]⟩,pth,false,⟨#[]⟩,true,frg⟩)))∧Below w.heap.size w w':=by
 have HN:Hid (frmU (UV.l ⟨⟨#[]⟩,false,⟨#[]⟩,pth,false,⟨#[]⟩,true,frg⟩) = (cutC pth.data.toList).isNone):=by
  unfold Hid
  rw [frmU_eq]
  show frmB false (⟨#[]⟩:ByteArray).data.toList.isEmpty false (⟨#[]⟩:ByteArray).data.toList.isEmpty true (frg:ByteArray).data.toList.isEmpty (pth:ByteArray).data.toList.isEmpty (preS (pth:ByteArray).data.toList) (preSS (pth:ByteArray).data.toList) (⟨#[]⟩:ByteArray).data.toList.isEmpty (cutC (pth:ByteArray).data.toList).isNone = _
  rw [hl]
  rfl
 have CL:Hid (∀ w,Calls Tryz.prog 97 #[.agg #[.string ⟨#[]⟩,.bool false,.string ⟨#[]⟩,.string pth,.bool false,.string ⟨#[]⟩,.bool true,.string frg]] w fun e w'=>e = .returned (.bool false)∧Below w.heap.size w w'):=fun w=>by
  have:=ulike_any ⟨#[]⟩ ⟨#[]⟩ pth ⟨#[]⟩ frg false false true w
  rw [hl] at this
  exact this
 have CC:Hid (∀ w,Calls Tryz.prog 90 #[.string pth] w fun e w'=>e = .returned (.int .i64 (whereC pth.data.toList))∧Below w.heap.size w w'):=fun w=>ucolon_any pth w hs
 have HW:Hid (decide (whereC pth.data.toList < 0) = (cutC pth.data.toList).isNone):=whereC_neg _
 generalize whereC pth.data.toList = V at *
 clear hl
 go_enter Tryz.func146,Tryz.ntmps146
 go_wp2_with fail
 refine (CL.out _).mono ?_
 rintro e w1 ⟨rfl,hb1⟩
 have hbe1:Below w.heap.size w w1:=((Below.refl _ _).alloc (Nat.le_refl _) _).trans (hb1.mono (by simp))
 have hc0:w1.cell? ⟨w.heap.size,0,none⟩ = some (.string ⟨#[]⟩):=by rw [hb1.cell (p:=⟨w.heap.size,0,none⟩) (by simp)];simp
 have hc3:w1.cell? ⟨w.heap.size,3,none⟩ = some (.string pth):=by rw [hb1.cell (p:=⟨w.heap.size,3,none⟩) (by simp)];simp
 clear CL hb1
 go_wp2_with fail
 refine (CC.out _).mono ?_
 rintro e w2 ⟨rfl,hb2⟩
 have hbe2:Below w.heap.size w w2:=hbe1.trans (hb2.mono hbe1.size)
 clear CC hb2
 go_wp2
 go_ret
 exact ⟨by rw [HN.out,← HW.out];rfl,hbe2⟩
set_option maxHeartbeats 1000000 in
theorem form_EEE_l (sch pth:ByteArray) (hl:preSS pth.data.toList = true) (w:World) :
  Calls Tryz.prog 146 #[.agg #[.string sch,.bool false,.string ⟨#[]⟩,.string pth,.bool false,.string ⟨#[]⟩,.bool false,.string ⟨#[]⟩]] w fun e w'=>e = .returned (.bool (frmU (UV.l ⟨sch,false,⟨#[]⟩,pth,false,⟨#[]⟩,false,⟨#[]⟩⟩)))∧Below w.heap.size w w':=by
 have HN:Hid (frmU (UV.l ⟨sch,false,⟨#[]⟩,pth,false,⟨#[]⟩,false,⟨#[]⟩⟩) = false):=by
  unfold Hid
  rw [frmU_eq]
  show frmB false (⟨#[]⟩:ByteArray).data.toList.isEmpty false (⟨#[]⟩:ByteArray).data.toList.isEmpty false (⟨#[]⟩:ByteArray).data.toList.isEmpty (pth:ByteArray).data.toList.isEmpty (preS (pth:ByteArray).data.toList) (preSS (pth:ByteArray).data.toList) (sch:ByteArray).data.toList.isEmpty (cutC (pth:ByteArray).data.toList).isNone = _
  rw [hl]
  rfl
 have CL:Hid (∀ w,Calls Tryz.prog 97 #[.agg #[.string sch,.bool false,.string ⟨#[]⟩,.string pth,.bool false,.string ⟨#[]⟩,.bool false,.string ⟨#[]⟩]] w fun e w'=>e = .returned (.bool true)∧Below w.heap.size w w'):=fun w=>by
  have:=ulike_any sch ⟨#[]⟩ pth ⟨#[]⟩ ⟨#[]⟩ false false false w
  rw [hl] at this
  exact this
 clear hl
 go_enter Tryz.func146,Tryz.ntmps146
 go_wp2_with fail
 refine (CL.out _).mono ?_
 rintro e w1 ⟨rfl,hb1⟩
 have hbe1:Below w.heap.size w w1:=((Below.refl _ _).alloc (Nat.le_refl _) _).trans (hb1.mono (by simp))
 have hc0:w1.cell? ⟨w.heap.size,0,none⟩ = some (.string sch):=by rw [hb1.cell (p:=⟨w.heap.size,0,none⟩) (by simp)];simp
 have hc3:w1.cell? ⟨w.heap.size,3,none⟩ = some (.string pth):=by rw [hb1.cell (p:=⟨w.heap.size,3,none⟩) (by simp)];simp
 clear CL hb1
 go_wp2
 go_ret
 exact ⟨by rw [HN.out];rfl,hbe1⟩
set_option maxHeartbeats 1000000 in
theorem form_EEE_s (sch pth:ByteArray) (hl:preSS pth.data.toList = false) (h1:sch.data.toList ≠ []) (w:World) :
  Calls Tryz.prog 146 #[.agg #[.string sch,.bool false,.string ⟨#[]⟩,.string pth,.bool false,.string ⟨#[]⟩,.bool false,.string ⟨#[]⟩]] w fun e w'=>e = .returned (.bool (frmU (UV.l ⟨sch,false,⟨#[]⟩,pth,false,⟨#[]⟩,false,⟨#[]⟩⟩)))∧Below w.heap.size w w':=by
 have HN:Hid (frmU (UV.l ⟨sch,false,⟨#[]⟩,pth,false,⟨#[]⟩,false,⟨#[]⟩⟩) = true):=by
  unfold Hid
  rw [frmU_eq]
  show frmB false (⟨#[]⟩:ByteArray).data.toList.isEmpty false (⟨#[]⟩:ByteArray).data.toList.isEmpty false (⟨#[]⟩:ByteArray).data.toList.isEmpty (pth:ByteArray).data.toList.isEmpty (preS (pth:ByteArray).data.toList) (preSS (pth:ByteArray).data.toList) (sch:ByteArray).data.toList.isEmpty (cutC (pth:ByteArray).data.toList).isNone = _
  rw [hl,isE_no sch h1]
  rfl
 have CL:Hid (∀ w,Calls Tryz.prog 97 #[.agg #[.string sch,.bool false,.string ⟨#[]⟩,.string pth,.bool false,.string ⟨#[]⟩,.bool false,.string ⟨#[]⟩]] w fun e w'=>e = .returned (.bool false)∧Below w.heap.size w w'):=fun w=>by
  have:=ulike_any sch ⟨#[]⟩ pth ⟨#[]⟩ ⟨#[]⟩ false false false w
  rw [hl] at this
  exact this
 have he:=bempty_no sch h1
 clear hl h1
 go_enter Tryz.func146,Tryz.ntmps146
 go_wp2_with fail
 refine (CL.out _).mono ?_
 rintro e w1 ⟨rfl,hb1⟩
 have hbe1:Below w.heap.size w w1:=((Below.refl _ _).alloc (Nat.le_refl _) _).trans (hb1.mono (by simp))
 have hc0:w1.cell? ⟨w.heap.size,0,none⟩ = some (.string sch):=by rw [hb1.cell (p:=⟨w.heap.size,0,none⟩) (by simp)];simp
 have hc3:w1.cell? ⟨w.heap.size,3,none⟩ = some (.string pth):=by rw [hb1.cell (p:=⟨w.heap.size,3,none⟩) (by simp)];simp
 clear CL hb1
 go_wp2
 go_ret
 exact ⟨by rw [HN.out];rfl,hbe1⟩
set_option maxHeartbeats 1000000 in
theorem form_EEE_c (pth:ByteArray) (hl:preSS pth.data.toList = false) (hs:pth.size≤1000000) (w:World) :
  Calls Tryz.prog 146 #[.agg #[.string ⟨#[]⟩,.bool false,.string ⟨#[]⟩,.string pth,.bool false,.string ⟨#[]⟩,.bool false,.string ⟨#[]⟩]] w fun e w'=>e = .returned (.bool (frmU (UV.l ⟨⟨#[]⟩,false,⟨#[]⟩,pth,false,⟨#[]⟩,false,⟨#[]⟩⟩)))∧Below w.heap.size w w':=by
 have HN:Hid (frmU (UV.l ⟨⟨#[]⟩,false,⟨#[]⟩,pth,false,⟨#[]⟩,false,⟨#[]⟩⟩) = (cutC pth.data.toList).isNone):=by
  unfold Hid
  rw [frmU_eq]
  show frmB false (⟨#[]⟩:ByteArray).data.toList.isEmpty false (⟨#[]⟩:ByteArray).data.toList.isEmpty false (⟨#[]⟩:ByteArray).data.toList.isEmpty (pth:ByteArray).data.toList.isEmpty (preS (pth:ByteArray).data.toList) (preSS (pth:ByteArray).data.toList) (⟨#[]⟩:ByteArray).data.toList.isEmpty (cutC (pth:ByteArray).data.toList).isNone = _
  rw [hl]
  rfl
 have CL:Hid (∀ w,Calls Tryz.prog 97 #[.agg #[.string ⟨#[]⟩,.bool false,.string ⟨#[]⟩,.string pth,.bool false,.string ⟨#[]⟩,.bool false,.string ⟨#[]⟩]] w fun e w'=>e = .returned (.bool false)∧Below w.heap.size w w'):=fun w=>by
  have:=ulike_any ⟨#[]⟩ ⟨#[]⟩ pth ⟨#[]⟩ ⟨#[]⟩ false false false w
  rw [hl] at this
  exact this
 have CC:Hid (∀ w,Calls Tryz.prog 90 #[.string pth] w fun e w'=>e = .returned (.int .i64 (whereC pth.data.toList))∧Below w.heap.size w w'):=fun w=>ucolon_any pth w hs
 have HW:Hid (decide (whereC pth.data.toList < 0) = (cutC pth.data.toList).isNone):=whereC_neg _
 generalize whereC pth.data.toList = V at *
 clear hl
 go_enter Tryz.func146,Tryz.ntmps146
 go_wp2_with fail
 refine (CL.out _).mono ?_
 rintro e w1 ⟨rfl,hb1⟩
 have hbe1:Below w.heap.size w w1:=((Below.refl _ _).alloc (Nat.le_refl _) _).trans (hb1.mono (by simp))
 have hc0:w1.cell? ⟨w.heap.size,0,none⟩ = some (.string ⟨#[]⟩):=by rw [hb1.cell (p:=⟨w.heap.size,0,none⟩) (by simp)];simp
 have hc3:w1.cell? ⟨w.heap.size,3,none⟩ = some (.string pth):=by rw [hb1.cell (p:=⟨w.heap.size,3,none⟩) (by simp)];simp
 clear CL hb1
 go_wp2_with fail
 refine (CC.out _).mono ?_
 rintro e w2 ⟨rfl,hb2⟩
 have hbe2:Below w.heap.size w w2:=hbe1.trans (hb2.mono hbe1.size)
 clear CC hb2
 go_wp2
 go_ret
 exact ⟨by rw [HN.out,← HW.out];rfl,hbe2⟩
set_option maxHeartbeats 1000000 in
theorem form_EEN (sch pth frg:ByteArray) (h1:frg.data.toList ≠ []) (w:World) :
  Calls Tryz.prog 146 #[.agg #[.string sch,.bool false,.string ⟨#[]⟩,.string pth,.bool false,.string ⟨#[]⟩,.bool false,.string frg]] w fun e w'=>e = .returned (.bool (frmU (UV.l ⟨sch,false,⟨#[]⟩,pth,false,⟨#[]⟩,false,frg⟩)))∧Below w.heap.size w w':=by
 have HN:Hid (frmU (UV.l ⟨sch,false,⟨#[]⟩,pth,false,⟨#[]⟩,false,frg⟩) = false):=by
  unfold Hid
  rw [frmU_eq]
  show frmB false (⟨#[]⟩:ByteArray).data.toList.isEmpty false (⟨#[]⟩:ByteArray).data.toList.isEmpty false (frg:ByteArray).data.toList.isEmpty (pth:ByteArray).data.toList.isEmpty (preS (pth:ByteArray).data.toList) (preSS (pth:ByteArray).data.toList) (sch:ByteArray).data.toList.isEmpty (cutC (pth:ByteArray).data.toList).isNone = _
  rw [isE_no frg h1]
  rfl
 have he:=bempty_no frg h1
 clear h1
 go_enter Tryz.func146,Tryz.ntmps146
 go_wp2
 go_ret
 exact ⟨by rw [HN.out];rfl,(Below.refl _ _).alloc (Nat.le_refl _) _⟩
set_option maxHeartbeats 1000000 in
theorem form_EN (sch pth qry frg:ByteArray) (hf:Bool) (h1:qry.data.toList ≠ []) (w:World) :
  Calls Tryz.prog 146 #[.agg #[.string sch,.bool false,.string ⟨#[]⟩,.string pth,.bool false,.string qry,.bool hf,.string frg]] w fun e w'=>e = .returned (.bool (frmU (UV.l ⟨sch,false,⟨#[]⟩,pth,false,qry,hf,frg⟩)))∧Below w.heap.size w w':=by
 have HN:Hid (frmU (UV.l ⟨sch,false,⟨#[]⟩,pth,false,qry,hf,frg⟩) = false):=by
  unfold Hid
  rw [frmU_eq]
  show frmB false (⟨#[]⟩:ByteArray).data.toList.isEmpty false (qry:ByteArray).data.toList.isEmpty hf (frg:ByteArray).data.toList.isEmpty (pth:ByteArray).data.toList.isEmpty (preS (pth:ByteArray).data.toList) (preSS (pth:ByteArray).data.toList) (sch:ByteArray).data.toList.isEmpty (cutC (pth:ByteArray).data.toList).isNone = _
  rw [isE_no qry h1]
  rfl
 have he:=bempty_no qry h1
 clear h1
 go_enter Tryz.func146,Tryz.ntmps146
 go_wp2
 go_ret
 exact ⟨by rw [HN.out];rfl,(Below.refl _ _).alloc (Nat.le_refl _) _⟩
set_option maxHeartbeats 1000000 in
theorem form_N (sch hst pth qry frg:ByteArray) (hq hf:Bool) (h1:hst.data.toList ≠ []) (w:World) :
  Calls Tryz.prog 146 #[.agg #[.string sch,.bool false,.string hst,.string pth,.bool hq,.string qry,.bool hf,.string frg]] w fun e w'=>e = .returned (.bool (frmU (UV.l ⟨sch,false,hst,pth,hq,qry,hf,frg⟩)))∧Below w.heap.size w w':=by
 have HN:Hid (frmU (UV.l ⟨sch,false,hst,pth,hq,qry,hf,frg⟩) = false):=by
  unfold Hid
  rw [frmU_eq]
  show frmB false (hst:ByteArray).data.toList.isEmpty hq (qry:ByteArray).data.toList.isEmpty hf (frg:ByteArray).data.toList.isEmpty (pth:ByteArray).data.toList.isEmpty (preS (pth:ByteArray).data.toList) (preSS (pth:ByteArray).data.toList) (sch:ByteArray).data.toList.isEmpty (cutC (pth:ByteArray).data.toList).isNone = _
  rw [isE_no hst h1]
  rfl
 have he:=bempty_no hst h1
 clear h1
 go_enter Tryz.func146,Tryz.ntmps146
 go_wp2
 go_ret
 exact ⟨by rw [HN.out];rfl,(Below.refl _ _).alloc (Nat.le_refl _) _⟩
theorem uformed_any (u:UV) (hs:u.short 1000000) (w:World) :
  Calls Tryz.prog 146 #[u.v] w fun e w'=>e = .returned (.bool (frmU u.l))∧Below w.heap.size w w':=by
 obtain ⟨sch,hh,hst,pth,hq,qry,hf,frg⟩:=u
 obtain ⟨_,_,hps,_,_⟩:=hs
 simp only at hps
 cases hh with
 | true =>
  cases hq with
  | true =>
   cases hf with
   | true =>
    by_cases hp:pth.data.toList = []
    ·obtain rfl:=bempty_yes pth hp
     exact form_TTT_e sch hst qry frg w
    ·exact form_TTT_p sch hst pth qry frg hp w
   | false =>
    by_cases hfe:frg.data.toList = []
    ·obtain rfl:=bempty_yes frg hfe
     by_cases hp:pth.data.toList = []
     ·obtain rfl:=bempty_yes pth hp
      exact form_TTE_e sch hst qry w
     ·exact form_TTE_p sch hst pth qry hp w
    ·exact form_TTN sch hst pth qry frg hfe w
  | false =>
   by_cases hqe:qry.data.toList = []
   ·obtain rfl:=bempty_yes qry hqe
    cases hf with
    | true =>
     by_cases hp:pth.data.toList = []
     ·obtain rfl:=bempty_yes pth hp
      exact form_TET_e sch hst frg w
     ·exact form_TET_p sch hst pth frg hp w
    | false =>
     by_cases hfe:frg.data.toList = []
     ·obtain rfl:=bempty_yes frg hfe
      by_cases hp:pth.data.toList = []
      ·obtain rfl:=bempty_yes pth hp
       exact form_TEE_e sch hst w
      ·exact form_TEE_p sch hst pth hp w
     ·exact form_TEN sch hst pth frg hfe w
   ·exact form_TN sch hst pth qry frg hf hqe w
 | false =>
  by_cases hhe:hst.data.toList = []
  ·obtain rfl:=bempty_yes hst hhe
   cases hq with
   | true =>
    cases hf with
    | true =>
     cases hl:preSS pth.data.toList with
     | true=>exact form_ETT_l sch pth qry frg hl w
     | false =>
      by_cases hc:sch.data.toList = []
      ·obtain rfl:=bempty_yes sch hc
       exact form_ETT_c pth qry frg hl hps w
      ·exact form_ETT_s sch pth qry frg hl hc w
    | false =>
     by_cases hfe:frg.data.toList = []
     ·obtain rfl:=bempty_yes frg hfe
      cases hl:preSS pth.data.toList with
      | true=>exact form_ETE_l sch pth qry hl w
      | false =>
       by_cases hc:sch.data.toList = []
       ·obtain rfl:=bempty_yes sch hc
        exact form_ETE_c pth qry hl hps w
       ·exact form_ETE_s sch pth qry hl hc w
     ·exact form_ETN sch pth qry frg hfe w
   | false =>
    by_cases hqe:qry.data.toList = []
    ·obtain rfl:=bempty_yes qry hqe
     cases hf with
     | true =>
      cases hl:preSS pth.data.toList with
      | true=>exact form_EET_l sch pth frg hl w
      | false =>
       by_cases hc:sch.data.toList = []
       ·obtain rfl:=bempty_yes sch hc
        exact form_EET_c pth frg hl hps w
       ·exact form_EET_s sch pth frg hl hc w
     | false =>
      by_cases hfe:frg.data.toList = []
      ·obtain rfl:=bempty_yes frg hfe
       cases hl:preSS pth.data.toList with
       | true=>exact form_EEE_l sch pth hl w
       | false =>
        by_cases hc:sch.data.toList = []
        ·obtain rfl:=bempty_yes sch hc
         exact form_EEE_c pth hl hps w
        ·exact form_EEE_s sch pth hl hc w
      ·exact form_EEN sch pth frg hfe w
    ·exact form_EN sch pth qry frg hf hqe w
  ·exact form_N sch hst pth qry frg hq hf hhe w
end Go.Proofs.YtbbfcbodhmeanaaGreatDoor

