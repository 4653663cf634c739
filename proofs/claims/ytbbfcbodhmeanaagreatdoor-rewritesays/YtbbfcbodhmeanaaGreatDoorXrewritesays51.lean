
import Derived.Test.YtbbfcbodhmeanaaGreatDoorXrewritesays50
import Derived.Lib.IndexAny
namespace Go.Proofs.YtbbfcbodhmeanaaGreatDoor
open Go.RowKit
def upL:List UInt8:=[65,66,67,68,69,70,71,72,73,74,75,76,77,78,79,80,81,82,83,84,85,86,87,88,89,90]
theorem upL_is (c:UInt8):upL.contains c = isUpB c:=by
 have:∀ n:Fin 256,upL.contains (UInt8.ofNat n.val) = isUpB (UInt8.ofNat n.val):=by decide +kernel
 have h:=this ⟨c.toNat,c.toNat_lt⟩
 simp only [UInt8.ofNat_toNat] at h
 exact h
theorem betw_up (l:List UInt8):betw 33 126 (hostN ++ upL) l = (betw 33 126 hostN l && l.all fun c=>!isUpB c):=by
 induction l with
 | nil=>rfl
 | cons c l ih =>
  rw [betw_cons,betw_cons,ih,List.all_cons]
  have:inB 33 126 (hostN ++ upL) c = (inB 33 126 hostN c && !isUpB c):=by
   unfold inB
   rw [← upL_is]
   simp [Bool.and_assoc]
  rw [this]
  cases inB 33 126 hostN c <;> cases isUpB c <;> cases betw 33 126 hostN l <;> simp
theorem first_part (l:List UInt8):∃ a r,partsP l = a::r∧a.contains 58 = !(cutC l).isNone:=by
 refine ⟨(splitP l).1,(splitP l).2,rfl,?_⟩
 induction l with
 | nil=>rfl
 | cons c l ih =>
  by_cases h1:c = 47
  ·subst h1;rfl
  ·unfold splitP cutC
   rw [if_neg h1]
   by_cases h2:c = 58
   ·subst h2;simp
   ·have h3:(58 == c) = false:=by rw [beq_eq_false_iff_ne];exact fun h=>h2 h.symm
    rw [if_neg h2,if_neg h1]
    show (c::(splitP l).1).contains 58 = _
    rw [List.contains_cons,h3,Bool.false_or,ih]
    cases cutC l <;> rfl
theorem preSS_has (l:List UInt8):Lib.hasPrefix l [47,47] = preSS l:=by
 rcases l with _ | ⟨a,_ | ⟨b,l⟩⟩
 ·rfl
 ·simp [Lib.hasPrefix,List.isPrefixOf,preSS]
 ·simp [Lib.hasPrefix,List.isPrefixOf,preSS,Bool.beq_comm]
theorem rchk_any (u:UV) (hs:u.short maxLen) (w:World) (hM:MaxAt w) :
  Calls Tryz.prog 102 #[u.v] w fun e w'=>e = .returned (.int .i64 (checkU u.l:Nat))∧Below w.heap.size w w':=by
 obtain ⟨T,hT⟩:=mk_text u
 have E:∀ s:ByteArray,s.data.toList.length = s.size:=fun s=>(Lib.size_eq s).symm
 obtain ⟨a,r,hp1,hp2⟩:=first_part u.pth.data.toList
 refine rchk_walk u.sch u.hst u.pth u.qry u.frg T ⟨a.toArray⟩ u.hh u.hq u.hf (u.l.sch.isEmpty || schemeS u.l.sch) (betw 33 126 (hostN ++ upL) u.l.hst) (betw 33 126 pathN u.l.pth) (betw 33 126 fragN u.l.qry) (betw 33 126 fragN u.l.frg)
  ((!u.l.hst.isEmpty && !u.hh) || (!u.l.qry.isEmpty && !u.hq) || (!u.l.frg.isEmpty && !u.hf)) (preS u.l.pth) (preSS u.l.pth) (a.contains 58) u.l.hst.isEmpty u.l.qry.isEmpty u.l.frg.isEmpty u.l.pth.isEmpty u.l.sch.isEmpty r.length hs w _ ?_ ?_
 ·intro h
  refine long_yes _ ?_
  show 120 < u.sch.data.toList.length ∨ 120 < u.hst.data.toList.length ∨ 120 < u.pth.data.toList.length ∨ 120 < u.qry.data.toList.length ∨ 120 < u.frg.data.toList.length
  rw [E,E,E,E,E];exact h
 ·intro h
  have h120:u.short 120:=h
  obtain ⟨s0,s1,s2,s3,s4⟩:=h
  refine ⟨?_,?_,rfl,rfl,rfl,rfl,rfl,rfl,?_,?_,?_,?_,?_,?_,?_,?_,?_,?_⟩
  ·rw [long_no _ (by
    show u.sch.data.toList.length≤120∧u.hst.data.toList.length≤120∧u.pth.data.toList.length≤120∧u.qry.data.toList.length≤120∧u.frg.data.toList.length≤120
    rw [E,E,E,E,E];exact h120),← hT,E,frmU_eq,betw_up,hp2]
   have hw:wrtU u.l = ((u.l.sch.isEmpty || schemeS u.l.sch) && ((betw 33 126 hostN u.l.hst && u.l.hst.all fun c=>!isUpB c) && (betw 33 126 pathN u.l.pth && (betw 33 126 fragN u.l.qry && betw 33 126 fragN u.l.frg)))):=by
    unfold wrtU
    generalize (u.l.sch.isEmpty || schemeS u.l.sch) = a1
    generalize betw 33 126 hostN u.l.hst = a2
    generalize (u.l.hst.all fun c=>!isUpB c) = a3
    generalize betw 33 126 pathN u.l.pth = a4
    generalize betw 33 126 fragN u.l.qry = a5
    generalize betw 33 126 fragN u.l.frg = a6
    cases a1 <;> cases a2 <;> cases a3 <;> cases a4 <;> cases a5 <;> cases a6 <;> rfl
   rw [hw]
   congr 1
   show _ = (if _ then 4 else if (if u.hh = true then _ else _) = true then 4 else _)
   unfold frmB
   show (if (if (!u.hh && !u.l.hst.isEmpty || !u.hq && !u.l.qry.isEmpty || !u.hf && !u.l.frg.isEmpty) = true then false else if u.hh = true then u.l.pth.isEmpty || preS u.l.pth else if (!u.hh && preSS u.l.pth) = true then false else !u.l.sch.isEmpty || (cutC u.l.pth).isNone) = false then 4 else _) = _
   generalize u.l.hst.isEmpty = e1
   generalize u.l.qry.isEmpty = e2
   generalize u.l.frg.isEmpty = e3
   generalize u.l.pth.isEmpty = e4
   generalize u.l.sch.isEmpty = e5
   generalize preS u.l.pth = e6
   generalize preSS u.l.pth = e7
   show (if _ then 4 else _) = (if _ then 4 else if (if u.hh = true then _ else e7 || (e5 && !(cutC u.l.pth).isNone)) = true then 4 else _)
   generalize (cutC u.l.pth).isNone = e8
   cases u.hh <;> cases e1 <;> cases u.hq <;> cases e2 <;> cases u.hf <;> cases e3 <;> cases e4 <;> cases e5 <;> cases e6 <;> cases e7 <;> cases e8 <;> rfl
  ·rw [Lib.size_eq,hT];exact text_short u h120
  ·exact fun W=>rscheme_any u.sch W (by omega)
  ·exact fun W=>between_any u.hst _ _ rfl 33 126 33 126 rfl rfl W (by omega)
  ·exact fun W=>between_any u.pth _ _ rfl 33 126 33 126 rfl rfl W (by omega)
  ·exact fun W=>between_any u.qry _ _ rfl 33 126 33 126 rfl rfl W (by omega)
  ·exact fun W=>between_any u.frg _ _ rfl 33 126 33 126 rfl rfl W (by omega)
  ·exact fun W=>pre_one u.pth W
  ·intro W
   refine (Tryz.strings_HasPrefix u.pth ⟨#[47,47]⟩ W).mono ?_
   rintro e w' ⟨rfl,rfl⟩
   refine ⟨?_,rfl⟩
   rw [show Lib.hasPrefix u.pth.data.toList (ByteArray.mk #[47,47]).data.toList = preSS u.l.pth from preSS_has _]
  ·intro W hW
   obtain ⟨xs,hx1,_,_,hC⟩:=split47_any u.pth W (hM.below hW) (by omega)
   rw [hp1] at hx1
   obtain ⟨x0,xr,rfl⟩:∃ x0 xr,xs = x0::xr:=by
    cases xs with
    | nil=>cases hx1
    | cons a b=>exact ⟨a,b,rfl⟩
   simp only [lst,List.map_cons,List.cons.injEq] at hx1
   obtain ⟨k1,k2⟩:=hx1
   have hl:xr.length = r.length:=by rw [← k2,List.length_map]
   have hx0:x0 = ⟨a.toArray⟩:=ba_inj k1
   refine hC.mono ?_
   rintro e w' ⟨rfl,rfl⟩
   rw [List.length_cons,hl,hx0]
   have hblk:(W.alloc (.cells ((⟨a.toArray⟩::xr:List ByteArray).map Value.string).toArray 9)).heap[W.heap.size]? = some (.cells ((⟨a.toArray⟩::xr:List ByteArray).map Value.string).toArray 9):=by
    show (W.heap.push _)[W.heap.size]? = _
    simp
   refine ⟨rfl,(Below.refl _ _).alloc (Nat.le_refl _) _,?_,?_⟩
   ·exact blk_cell hblk 0
   ·exact blk_frozen hblk 0
  ·intro W
   refine (Tryz.strings_Contains_one ⟨a.toArray⟩ 58 W).mono ?_
   rintro e w' ⟨rfl,rfl⟩
   exact ⟨by rw [Lib.contains_iff_indexByte],rfl⟩
  ·exact fun W=>rtext_any u h120 T hT W
end Go.Proofs.YtbbfcbodhmeanaaGreatDoor



namespace Go.Proofs.YtbbfcbodhmeanaaGreatDoor
open Go.RowKit
def udBack (s:List UInt8) (out:List (List UInt8)):List (List UInt8):=if (s == [46,46]) && decide (0 < out.length) then out.dropLast else out
def udGo:List (List UInt8)→List (List UInt8)→List (List UInt8)
 | [],out=>out
 | s::r,out=>if isDot s then udGo r (if r.isEmpty then udBack s out ++ [[]] else udBack s out) else udGo r (out ++ [s])
theorem ud_skip (s:List UInt8) (r left:List (List UInt8)) (h:isDot s = false):udGo (s::r) left = udGo r (left ++ [s]):=by rw [udGo,if_neg (by rw [h];simp)]
theorem ud_dot (s:List UInt8) (r left:List (List UInt8)) (h:isDot s = true):udGo (s::r) left = udGo r (if r.isEmpty then udBack s left ++ [[]] else udBack s left):=by rw [udGo,if_pos h]
theorem ud_back (s:List UInt8) (out:List (List UInt8)):backP s ([]::out) = []::udBack s out:=by
 unfold backP udBack
 cases out with
 | nil=>simp
 | cons a t =>
  by_cases h:s = [46,46]
  ·subst h
   rw [if_pos (by simp),if_pos (by simp)]
   rfl
  ·rw [if_neg (by simp [h]),if_neg (by simp [h])]
theorem ud_dots:∀ (ps out:List (List UInt8)),dotsGo ps ([]::out) = []::udGo ps out
 | [],out=>rfl
 | s::r,out=>by
  rw [dotsGo,udGo]
  split
  ·rw [ud_back]
   by_cases hr:r.isEmpty = true
   ·rw [if_pos hr,if_pos hr];exact ud_dots r _
   ·rw [if_neg hr,if_neg hr];exact ud_dots r _
  ·exact ud_dots r _
theorem ud_ne:∀ (ps out:List (List UInt8)),ps ≠ []→udGo ps out ≠ []
 | [],_,h=>absurd rfl h
 | [s],out,_=>by
  rw [udGo]
  split <;> simp [udGo]
 | s::t::r,out,_=>by
  rw [udGo]
  split
  ·exact ud_ne (t::r) _ (by simp)
  ·exact ud_ne (t::r) _ (by simp)
theorem joinP_front (xs:List (List UInt8)) (h:xs ≠ []):joinP ([]::xs) = 47::joinP xs:=by
 cases xs with
 | nil=>exact absurd rfl h
 | cons a t=>rfl
theorem undot_ref (p:List UInt8) (r:List (List UInt8)) (hp:partsP p = []::r) (hr:r ≠ []):undotU p = 47::joinP (udGo r []):=by
 unfold undotU
 rw [hp,dots_skip _ _ _ rfl]
 show joinP (dotsGo r ([]::[])) = _
 rw [ud_dots,joinP_front _ (ud_ne r [] hr)]
theorem parts_pre (p:List UInt8) (h:preS p = true):∃ r,partsP p = []::r∧r ≠ []:=by
 obtain ⟨q,rfl⟩:=(preS_iff p).1 h
 exact ⟨(splitP (47::q)).2,rfl,by rw [splitP,if_pos rfl];simp⟩
set_option maxHeartbeats 8000000 in
set_option maxRecDepth 100000 in
theorem rdots_walk (b n:Nat) (s:ByteArray) (xs:List ByteArray) (hn:Hid (n = xs.length)) (hn1:1≤n) (hn2:n≤1000) (he:s.toList.isEmpty = false) (hx:Hid (∀ x ∈ xs,x.size≤1000)) (w w1:World) (hb1:Below w.heap.size w w1) (hbw:b < w1.heap.size)
  (CS:Hid (Calls Tryz.prog 57 #[.string s,.string ⟨#[47]⟩] w fun e w'=>e = .returned (.slice (some ⟨b,0,none⟩) (n + 1) (n + 1))∧w' = w1))
  (hc:Hid (∀ i,i < n→w1.cell? ⟨b,1 + i,none⟩ = some (.string (xs.getD i ByteArray.empty)))) :
  Calls Tryz.prog 105 #[.string s] w fun e w'=>e = .returned (.string (bar (47::joinP (udGo (lst xs) []))))∧Below w.heap.size w w':=by
 obtain ⟨i0,hi,hz0,hz1,hz2⟩:=info_parts info_str
 obtain ⟨RES,hRES⟩:∃ RES,udGo (lst xs) [] = RES:=⟨_,rfl⟩
 rw [hRES]
 have HR0:Hid (udGo (lst xs) [] = RES):=hRES
 clear hRES
 go_enter Tryz.func105,Tryz.ntmps105
 go_wp2_with fail
 refine CS.out.mono ?_
 rintro e w' ⟨rfl,hw'⟩
 have hw'':=hw'.symm
 subst hw''
 clear CS
 go_wp2_with fail
 go_loopw [4,14] (fun lv iv wr=>∃ (k:Nat) (p:Option Addr) (m c1:Nat) (ls:List ByteArray),k≤n∧iv = .int .i64 k∧lv = .slice p m c1∧m≤k∧Hid (m = ls.length)∧Below w1.heap.size w1 wr∧Hid (wr.ownsRow w1.heap.size 9 1 (.slice p m c1) m (strv ls))∧Hid (∀ x ∈ ls,x.size≤1000)∧Hid (udGo (lst (xs.drop k)) (lst ls) = RES)) (fun _ iv _=>n - (intOf iv).toNat)
 case atStart=>exact ⟨0,none,0,0,[],Nat.zero_le _,rfl,rfl,Nat.le_refl _,rfl,Below.refl _ _,World.ownsRow_nil _ _ _ _,(fun x hx=>by cases hx),HR0⟩
 case round =>
  obtain ⟨k,p,m,c1,ls,hk,rfl,rfl,hmk,HM,hbr,HO,HL,HR⟩:=hrel
  clear HR0
  have hsz:=hbr.size
  by_cases hlt:k < n
  ·have hck:wr.cell? ⟨b,1 + k,none⟩ = some (.string (xs.getD k ByteArray.empty)):=(hbr.cell (p:=⟨b,1 + k,none⟩) hbw).trans (hc.out k hlt)
   have hkl:k < xs.length:=by rw [← hn.out];exact hlt
   have hxs:Hid ((xs.getD k ByteArray.empty).size≤1000):=hx.out _ (by rw [List.getD_eq_getElem?_getD,List.getElem?_eq_getElem hkl];exact List.getElem_mem hkl)
   have hld:=lst_drop xs k hkl
   have hle:=lst_last xs (k + 1)
   rw [← hn.out] at hle
   have HD:Hid (lst (xs.drop k) = (xs.getD k ByteArray.empty).data.toList::lst (xs.drop (k + 1))):=hld
   have HE:Hid ((lst (xs.drop (k + 1))).isEmpty = decide (n≤k + 1)):=hle
   clear hld hle hkl
   generalize xs.getD k ByteArray.empty = x at *
   rw [HD.out] at HR
   obtain ⟨rest,hrest⟩:∃ rest,lst (xs.drop (k + 1)) = rest:=⟨_,rfl⟩
   rw [hrest] at HR HE
   have HRS:Hid (lst (xs.drop (k + 1)) = rest):=hrest
   clear hrest
   by_cases h1:x.data.toList = [46]
   ·have hx1:x.toList = [46]:=by rw [ByteArray.toList_eq];exact h1
    have hx2:¬ x.toList = [46,46]:=by rw [ByteArray.toList_eq,h1];decide
    have HR2:Hid (udGo rest (if rest.isEmpty then lst ls ++ [[]] else lst ls) = RES):=by
     unfold Hid
     rw [← HR.out,h1,ud_dot _ _ _ rfl]
     rfl
    clear HR h1 HD
    by_cases hlast:n≤k + 1
    ·have hli:((k:Int) == (n:Int) - 1) = true:=by rw [beq_iff_eq];omega
     have HR3:Hid (udGo rest (lst (ls ++ [⟨#[]⟩])) = RES):=by
      unfold Hid
      rw [← HR2.out,HE.out,decide_eq_true hlast,if_pos rfl,lst_snoc]
     have hoy:=HO.out
     clear HR2 HE
     go_wp2_with (at_builtin;refine wpList_append_own _ rfl (.tmp 46) (.tmp 47) 26 rfl w1.heap.size 9 i0 (.string ⟨#[]⟩) 1 16 Tryz.underlying26 hi hz0 hz1 hz2 rfl (by decide) _ _ _ rfl (hoy.alloc _) ⟨wr.heap.size,0,none⟩ 1 1 [.string ⟨#[]⟩] rfl rfl (cell_loU _ _ _ _ rfl) ?c2 ?c3 ?c4 ?c5 ?_)
     case c2=>first | rfl | (intro u hu;simp at hu;subst hu;rfl)
     case c3=>unfold maxLen;omega
     case c4=>omega
     case c5=>first | omega | (simp;omega)
     intro v9 w9 hown9 hg9 _
     have hb9:Below w1.heap.size w1 w9:=(hbr.alloc hsz _).grown hg9 (by simp;omega) (fun j hj=>(hoy.lt j hj).1)
     obtain ⟨q9,c9,rfl⟩:=owned_slU hown9
     have HO9:Hid (w9.ownsRow w1.heap.size 9 1 (.slice q9 (m + 1) c9) (m + 1) (strv (ls ++ [(⟨#[]⟩:ByteArray)]))):=by unfold Hid;rw [strv_snoc];exact hown9
     have HM9:Hid (m + 1 = (ls ++ [(⟨#[]⟩:ByteArray)]).length):=by unfold Hid;rw [List.length_append,← HM.out];rfl
     have HL9:Hid (∀ z ∈ ls ++ [(⟨#[]⟩:ByteArray)],z.size≤1000):=fun z hz=>by
      rcases List.mem_append.1 hz with h | h
      ·exact HL.out z h
      ·simp at h;subst h;exact (by decide)
     clear hown9 hg9 hoy
     go_wp2_with fail
     go_roundw
     case rel=>exact ⟨k + 1,q9,m + 1,c9,ls ++ [(⟨#[]⟩:ByteArray)],by omega,by go_num,rfl,by omega,HM9,hb9,HO9,HL9,by unfold Hid;rw [HRS.out];exact HR3⟩
     case measure=>simp [intOf];omega
    ·have hli:((k:Int) == (n:Int) - 1) = false:=by rw [beq_eq_false_iff_ne];omega
     have HR3:Hid (udGo rest (lst ls) = RES):=by
      unfold Hid
      rw [← HR2.out,HE.out,decide_eq_false hlast,if_neg (by simp)]
     clear HR2 HE
     go_wp2_with fail
     go_roundw
     case rel=>exact ⟨k + 1,p,m,c1,ls,by omega,by go_num,rfl,by omega,HM,hbr,HO,HL,by unfold Hid;rw [HRS.out];exact HR3⟩
     case measure=>simp [intOf];omega
   ·by_cases h2:x.data.toList = [46,46]
    ·have hx1:¬ x.toList = [46]:=by rw [ByteArray.toList_eq,h2];decide
     have hx2:x.toList = [46,46]:=by rw [ByteArray.toList_eq];exact h2
     by_cases hm1:0 < m
     ·obtain ⟨m',rfl⟩:∃ m',m = m' + 1:=⟨m - 1,by omega⟩
      obtain ⟨g,rfl,hg1,hg2⟩:=owned_some HO.out
      rcases List.eq_nil_or_concat ls with hnil | ⟨ls',y,hls⟩
      ·exact absurd HM.out (by rw [hnil];simp)
      rw [List.concat_eq_append] at hls
      subst hls
      have HM2:Hid (m' = ls'.length):=by have:=HM.out;rw [List.length_append] at this;simp at this;exact this
      have HO2:Hid (wr.ownsRow w1.heap.size 9 1 (.slice (some ⟨g,0,none⟩) m' c1) m' (strv ls')):=by
       have:=HO.out
       rw [strv_snoc] at this
       exact ownsRow_pop (by simp [strv];exact HM2.out.symm) this
      have HL2:Hid (∀ z ∈ ls',z.size≤1000):=fun z hz=>HL.out z (by simp [hz])
      have HR2:Hid (udGo rest (if rest.isEmpty then lst ls' ++ [[]] else lst ls') = RES):=by
       unfold Hid
       rw [← HR.out,h2,ud_dot _ _ _ rfl]
       have hbp:udBack [46,46] (lst (ls' ++ [y])) = lst ls':=by
        unfold udBack
        rw [if_pos (by
         rw [lst_length,List.length_append,← HM2.out,List.length_singleton,decide_eq_true hm1]
         rfl),lst_snoc,List.dropLast_concat]
       rw [hbp]
      have hmi:(0:Int) < ((m' + 1:Nat):Int):=by omega
      clear HR h2 HD HM HO HL hm1
      by_cases hlast:n≤k + 1
      ·have hli:((k:Int) == (n:Int) - 1) = true:=by rw [beq_iff_eq];omega
       have HR3:Hid (udGo rest (lst (ls' ++ [⟨#[]⟩])) = RES):=by
        unfold Hid
        rw [← HR2.out,HE.out,decide_eq_true hlast,if_pos rfl,lst_snoc]
       have hoy:=HO2.out
       clear HR2 HE
       go_wp2_with (at_builtin;refine wpList_append_own _ rfl (.tmp 46) (.tmp 47) 26 rfl w1.heap.size 9 i0 (.string ⟨#[]⟩) 1 16 Tryz.underlying26 hi hz0 hz1 hz2 rfl (by decide) _ _ _ rfl (hoy.alloc _) ⟨wr.heap.size,0,none⟩ 1 1 [.string ⟨#[]⟩] rfl rfl (cell_loU _ _ _ _ rfl) ?c2 ?c3 ?c4 ?c5 ?_)
       case c2=>first | rfl | (intro u hu;simp at hu;subst hu;rfl)
       case c3=>unfold maxLen;omega
       case c4=>omega
       case c5=>first | omega | (simp;omega)
       intro v9 w9 hown9 hg9 _
       have hb9:Below w1.heap.size w1 w9:=(hbr.alloc hsz _).grown hg9 (by simp;omega) (fun j hj=>(hoy.lt j hj).1)
       obtain ⟨q9,c9,rfl⟩:=owned_slU hown9
       have HO9:Hid (w9.ownsRow w1.heap.size 9 1 (.slice q9 (m' + 1) c9) (m' + 1) (strv (ls' ++ [(⟨#[]⟩:ByteArray)]))):=by unfold Hid;rw [strv_snoc];exact hown9
       have HM9:Hid (m' + 1 = (ls' ++ [(⟨#[]⟩:ByteArray)]).length):=by unfold Hid;rw [List.length_append,← HM2.out];rfl
       have HL9:Hid (∀ z ∈ ls' ++ [(⟨#[]⟩:ByteArray)],z.size≤1000):=fun z hz=>by
        rcases List.mem_append.1 hz with h | h
        ·exact HL2.out z h
        ·simp at h;subst h;exact (by decide)
       clear hown9 hg9 hoy
       go_wp2_with fail
       go_roundw
       case rel=>exact ⟨k + 1,q9,m' + 1,c9,ls' ++ [(⟨#[]⟩:ByteArray)],by omega,by go_num,rfl,by omega,HM9,hb9,HO9,HL9,by unfold Hid;rw [HRS.out];exact HR3⟩
       case measure=>simp [intOf];omega
      ·have hli:((k:Int) == (n:Int) - 1) = false:=by rw [beq_eq_false_iff_ne];omega
       have HR3:Hid (udGo rest (lst ls') = RES):=by
        unfold Hid
        rw [← HR2.out,HE.out,decide_eq_false hlast,if_neg (by simp)]
       clear HR2 HE
       go_wp2_with fail
       go_roundw
       case rel=>exact ⟨k + 1,some ⟨g,0,none⟩,m',c1,ls',by omega,by go_num,rfl,by omega,HM2,hbr,HO2,HL2,by unfold Hid;rw [HRS.out];exact HR3⟩
       case measure=>simp [intOf];omega
     ·have HR2:Hid (udGo rest (if rest.isEmpty then lst ls ++ [[]] else lst ls) = RES):=by
       unfold Hid
       rw [← HR.out,h2,ud_dot _ _ _ rfl]
       have hbp:udBack [46,46] (lst ls) = lst ls:=by
        unfold udBack
        rw [if_neg (by
         rw [lst_length,← HM.out,decide_eq_false hm1]
         simp)]
       rw [hbp]
      have hmi:¬ (0:Int) < (m:Int):=by omega
      clear HR h2 HD
      by_cases hlast:n≤k + 1
      ·have hli:((k:Int) == (n:Int) - 1) = true:=by rw [beq_iff_eq];omega
       have HR3:Hid (udGo rest (lst (ls ++ [⟨#[]⟩])) = RES):=by
        unfold Hid
        rw [← HR2.out,HE.out,decide_eq_true hlast,if_pos rfl,lst_snoc]
       have hoy:=HO.out
       clear HR2 HE
       go_wp2_with (at_builtin;refine wpList_append_own _ rfl (.tmp 46) (.tmp 47) 26 rfl w1.heap.size 9 i0 (.string ⟨#[]⟩) 1 16 Tryz.underlying26 hi hz0 hz1 hz2 rfl (by decide) _ _ _ rfl (hoy.alloc _) ⟨wr.heap.size,0,none⟩ 1 1 [.string ⟨#[]⟩] rfl rfl (cell_loU _ _ _ _ rfl) ?c2 ?c3 ?c4 ?c5 ?_)
       case c2=>first | rfl | (intro u hu;simp at hu;subst hu;rfl)
       case c3=>unfold maxLen;omega
       case c4=>omega
       case c5=>first | omega | (simp;omega)
       intro v9 w9 hown9 hg9 _
       have hb9:Below w1.heap.size w1 w9:=(hbr.alloc hsz _).grown hg9 (by simp;omega) (fun j hj=>(hoy.lt j hj).1)
       obtain ⟨q9,c9,rfl⟩:=owned_slU hown9
       have HO9:Hid (w9.ownsRow w1.heap.size 9 1 (.slice q9 (m + 1) c9) (m + 1) (strv (ls ++ [(⟨#[]⟩:ByteArray)]))):=by unfold Hid;rw [strv_snoc];exact hown9
       have HM9:Hid (m + 1 = (ls ++ [(⟨#[]⟩:ByteArray)]).length):=by unfold Hid;rw [List.length_append,← HM.out];rfl
       have HL9:Hid (∀ z ∈ ls ++ [(⟨#[]⟩:ByteArray)],z.size≤1000):=fun z hz=>by
        rcases List.mem_append.1 hz with h | h
        ·exact HL.out z h
        ·simp at h;subst h;exact (by decide)
       clear hown9 hg9 hoy
       go_wp2_with fail
       go_roundw
       case rel=>exact ⟨k + 1,q9,m + 1,c9,ls ++ [(⟨#[]⟩:ByteArray)],by omega,by go_num,rfl,by omega,HM9,hb9,HO9,HL9,by unfold Hid;rw [HRS.out];exact HR3⟩
       case measure=>simp [intOf];omega
      ·have hli:((k:Int) == (n:Int) - 1) = false:=by rw [beq_eq_false_iff_ne];omega
       have HR3:Hid (udGo rest (lst ls) = RES):=by
        unfold Hid
        rw [← HR2.out,HE.out,decide_eq_false hlast,if_neg (by simp)]
       clear HR2 HE
       go_wp2_with fail
       go_roundw
       case rel=>exact ⟨k + 1,p,m,c1,ls,by omega,by go_num,rfl,by omega,HM,hbr,HO,HL,by unfold Hid;rw [HRS.out];exact HR3⟩
       case measure=>simp [intOf];omega
    ·have hx1:(x.toList == [46]) = false:=by rw [beq_eq_false_iff_ne,ByteArray.toList_eq];exact h1
     have hx2:(x.toList == [46,46]) = false:=by rw [beq_eq_false_iff_ne,ByteArray.toList_eq];exact h2
     have HR2:Hid (udGo rest (lst (ls ++ [x])) = RES):=by
      unfold Hid
      rw [← HR.out,ud_skip _ _ _ (by unfold isDot;simp [h1,h2]),lst_snoc]
     have hoy:=HO.out
     clear HR h1 h2 HD HE
     go_wp2_with (at_builtin;refine wpList_append_own _ rfl (.tmp 37) (.tmp 39) 26 rfl w1.heap.size 9 i0 (.string ⟨#[]⟩) 1 16 Tryz.underlying26 hi hz0 hz1 hz2 rfl (by decide) _ _ _ rfl (hoy.alloc _) ⟨wr.heap.size,0,none⟩ 1 1 [.string x] rfl rfl (cell_loU _ _ _ _ rfl) ?c2 ?c3 ?c4 ?c5 ?_)
     case c2=>first | rfl | (intro u hu;simp at hu;subst hu;rfl)
     case c3=>unfold maxLen;omega
     case c4=>omega
     case c5=>first | omega | (simp;omega)
     intro v9 w9 hown9 hg9 _
     have hb9:Below w1.heap.size w1 w9:=(hbr.alloc hsz _).grown hg9 (by simp;omega) (fun j hj=>(hoy.lt j hj).1)
     obtain ⟨q9,c9,rfl⟩:=owned_slU hown9
     have HO9:Hid (w9.ownsRow w1.heap.size 9 1 (.slice q9 (m + 1) c9) (m + 1) (strv (ls ++ [x]))):=by unfold Hid;rw [strv_snoc];exact hown9
     have HM9:Hid (m + 1 = (ls ++ [x]).length):=by unfold Hid;rw [List.length_append,← HM.out];rfl
     have HL9:Hid (∀ z ∈ ls ++ [x],z.size≤1000):=fun z hz=>by
      rcases List.mem_append.1 hz with h | h
      ·exact HL.out z h
      ·simp at h;subst h;exact hxs.out
     clear hown9 hg9 hoy
     go_wp2_with fail
     go_roundw
     case rel=>exact ⟨k + 1,q9,m + 1,c9,ls ++ [x],by omega,by go_num,rfl,by omega,HM9,hb9,HO9,HL9,by unfold Hid;rw [HRS.out];exact HR2⟩
     case measure=>simp [intOf];omega
  ·obtain rfl:k = n:=by omega
   have HR2:Hid (lst ls = RES):=by
    have:=HR.out
    rw [List.drop_of_length_le (by rw [← hn.out];exact Nat.le_refl _)] at this
    exact this
   clear HR
   have hlen:(Lib.join (ls.map (·.data.toList)) (ByteArray.mk #[47]).data.toList).length≤140737488355328:=by
    show (Lib.join (lst ls) [47]).length≤_
    rw [join_joinP]
    have h1:=joinP_short 1000 (lst ls) (fun y hy=>by
     unfold lst at hy
     rw [List.mem_map] at hy
     obtain ⟨z,hz,rfl⟩:=hy
     rw [← Lib.size_eq];exact HL.out z hz)
    rw [lst_length,← HM.out] at h1
    have h2:m * (1000 + 1)≤1000 * 1001:=Nat.mul_le_mul (by omega) (by omega)
    omega
   have CJ:Hid (Calls Tryz.prog 107 #[.slice p m c1,.string ⟨#[47]⟩] wr fun e w'=>e = .returned (.string (bar (joinP RES)))∧Below wr.heap.size wr w'):=by
    have hjr:Lib.join (ls.map (·.data.toList)) (ByteArray.mk #[47]).data.toList = joinP RES:=by
     rw [← HR2.out];exact join_joinP _
    rcases Nat.eq_zero_or_pos m with h0 | h0
    ·subst h0
     have hl0:ls = []:=List.length_eq_zero_iff.1 HM.out.symm
     refine (Tryz.strings_Join_none p c1 ⟨#[47]⟩ wr).mono ?_
     rintro e w' ⟨rfl,rfl⟩
     refine ⟨?_,Below.refl _ _⟩
     rw [← hjr,hl0];rfl
    ·obtain ⟨m',rfl⟩:∃ m',m = m' + 1:=⟨m - 1,by omega⟩
     obtain ⟨g,rfl,hg1,hg2⟩:=owned_some HO.out
     have:=Tryz.strings_Join g 0 c1 ls ⟨#[47]⟩ wr (fun j y hy=>by
      have hj:j < ls.length:=(List.getElem?_eq_some_iff.1 hy).1
      rw [Nat.zero_add,HO.out.cellAt j (by have:=HM.out;omega)]
      simp [strv,hy]) hg1 (by have:=HM.out;omega) (by have:=HM.out;omega) hlen
     rw [← HM.out,hjr] at this
     exact this
   have hJ:(bar (joinP RES)).size≤140737488355328:=by
    rw [bar_size,← HR2.out,← join_joinP]
    exact hlen
   have HA:Hid ((⟨#[47]⟩ ++ bar (joinP RES):ByteArray) = bar (47::joinP RES)):=by
    unfold Hid
    apply ba_inj
    rw [data_app]
    rfl
   generalize bar (joinP RES) = J at *
   have hcat:¬ 9223372036854775807 < 1 + J.size:=by omega
   clear HO HL HM hlen
   go_wp2_with fail
   refine CJ.out.mono ?_
   rintro e w2 ⟨rfl,hb2⟩
   go_wp2
   go_ret
   exact ⟨by rw [← HA.out];rfl,hb1.trans ((hbr.trans (hb2.mono hsz)).mono hb1.size)⟩
set_option maxHeartbeats 1000000 in
theorem rdots_any (s:ByteArray) (w:World) (hM:MaxAt w) (hs:s.size≤900) (hp:s.data.toList = [] ∨ preS s.data.toList = true) :
  Calls Tryz.prog 105 #[.string s] w fun e w'=>e = .returned (.string (bar (undotU s.data.toList)))∧Below w.heap.size w w':=by
 by_cases hne:s.data.toList = []
 ·obtain rfl:=bempty_yes s hne
  go_enter Tryz.func105,Tryz.ntmps105
  go_wp2
  go_ret
  exact ⟨rfl,Below.refl _ _⟩
 ·have hps:preS s.data.toList = true:=hp.resolve_left hne
  obtain ⟨r,hr1,hr2⟩:=parts_pre _ hps
  obtain ⟨xs,hxp,hxl,hxs,CS⟩:=split47_any s w hM hs
  rw [undot_ref _ r hr1 hr2]
  cases xs with
  | nil=>rw [hr1] at hxp;cases hxp
  | cons x ys =>
   have hys:lst ys = r:=by
    rw [hr1] at hxp
    exact (List.cons.inj hxp).2
   have hl1:1≤ys.length:=by
    cases ys with
    | nil=>exact absurd hys.symm hr2
    | cons a b=>simp
   rw [← hys]
   rw [List.length_cons] at CS hxl
   exact rdots_walk w.heap.size ys.length s ys rfl hl1 (by omega) (bempty_no s hne) (fun y hy=>hxs y (by simp [hy])) w _ ((Below.refl _ _).alloc (Nat.le_refl _) _) (by simp) CS (fun i hi=>by
    rw [World.cell?_alloc_at _ _ _ _ rfl]
    have hi':i < ys.length:=hi
    simp [List.getD_eq_getElem?_getD,hi',Nat.add_comm 1 i])
end Go.Proofs.YtbbfcbodhmeanaaGreatDoor



namespace Go.Proofs.YtbbfcbodhmeanaaGreatDoor
open Go.RowKit
abbrev cellsU (a0:ByteArray) (a1:Bool) (a2 a3:ByteArray) (a4:Bool) (a5:ByteArray) (a6:Bool) (a7:ByteArray):Array Value:=#[.string a0,.bool a1,.string a2,.string a3,.bool a4,.string a5,.bool a6,.string a7]
abbrev E0:ByteArray:=⟨#[]⟩
abbrev zeroU:Value:=.agg #[.string ⟨#[]⟩,.bool false,.string ⟨#[]⟩,.string ⟨#[]⟩,.bool false,.string ⟨#[]⟩,.bool false,.string ⟨#[]⟩]
end Go.Proofs.YtbbfcbodhmeanaaGreatDoor

