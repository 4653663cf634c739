
import Derived.Test.YtbbfcbodhmeanaaGreatDoorXrewritesays14
namespace Go.Proofs.YtbbfcbodhmeanaaGreatDoor
open Go.RowKit
theorem brow_drop {w:World} {a:Addr} {l:List UInt8} (h:BRow w (some a) l) (d:Nat):BRow w (some (a.add d)) (l.drop d):=by
 intro hne
 obtain ⟨b,o,e,hc⟩:=h (fun e=>by rw [e] at hne;simp at hne)
 obtain rfl:=Option.some.inj e
 refine ⟨b,o + d,by rw [Addr.add_lit],fun i hi=>?_⟩
 rw [List.length_drop] at hi
 rw [Nat.add_assoc,hc (d + i) (by omega)]
 congr 3
 rw [List.getD_eq_getElem?_getD,List.getD_eq_getElem?_getD,List.getElem?_drop]
theorem fill_keep (x:LK) (ls:List LK) (ts:List (List UInt8)) (s:List UInt8):fillP (x::ls) ([]::ts) s = fillP ls ts s:=by rw [fillP,if_pos rfl]
theorem fill_put (x:LK) (ls:List LK) (t:List UInt8) (ts:List (List UInt8)) (s:List UInt8) (h:t ≠ []):fillP (x::ls) (t::ts) s = s.take (s.length - x.1) ++ t ++ fillP ls ts (s.drop (s.length - x.1 + x.2.length)):=by rw [fillP,if_neg h]
theorem fill_end (ts:List (List UInt8)) (s:List UInt8):fillP [] ts s = s:=by cases ts <;> rfl
set_option maxHeartbeats 16000000 in
set_option maxRecDepth 100000 in
theorem filled_any (q:Option Addr) (n c:Nat) (b:List UInt8) (en:n = b.length) (hn:n≤4000) (hnc:n≤c) (hcm:c≤maxLen) (a1:Option Addr) (m c1:Nat) (l:List LK) (em:m = l.length) (hc1:c1≤maxLen) (hmc:m≤c1)
  (a2:Option Addr) (c2:Nat) (ts:List ByteArray) (et:m = ts.length) (hts:∀ t ∈ ts,t.size≤maxLen) (w:World) (hr:BRow w q b) (hq:q = none→n = 0∧c = 0) (hk:KRow w a1 n l) (hs:TxRow w a2 ts) (hord:Ord n 0 l) (hleft:∀ x ∈ l,1≤x.1) :
  Calls Tryz.prog 78 #[.slice q n c,.slice a1 m c1,.slice a2 m c2] w fun e w'=>FillPost w (fillP l (tls ts) b) e w':=by
 obtain ⟨i0,hi,hz0,hz1,hz2⟩:=info_parts info_u8
 have HR:Hid (∀ w',Below w.heap.size w w'→BRow w' q b):=fun w' h=>hr.below h
 have HK:Hid (∀ w',Below w.heap.size w w'→KRow w' a1 n l):=fun w' h=>hk.below h
 have HS:Hid (∀ w',Below w.heap.size w w'→TxRow w' a2 ts):=fun w' h=>hs.below h
 have HQ:Hid (q = none→n = 0∧c = 0):=hq
 have HL:Hid (∀ x ∈ l,1≤x.1):=hleft
 have HT:Hid (∀ t ∈ ts,t.size≤maxLen):=hts
 have HE:Hid (m = l.length∧m = ts.length∧n = b.length):=⟨em,et,en⟩
 have HA0:Hid (FillSt w n b l (tls ts) (m + 1) w (.slice none 0 0) 0 0 []):=⟨by omega,Nat.zero_le _,Nat.zero_le _,fun h=>by
  cases l with
  | nil=>simp at h
  | cons x l=>have h1:=hleft x (by simp);have h2:=hord.1;omega,by simp,hord,Below.refl _ _,World.ownsRow_nil _ _ _ _,rfl⟩
 unfold maxLen at hcm hc1
 clear hr hk hs hq hleft hts hord en em et
 go_enter Tryz.func78,Tryz.ntmps78
 go_wp2_with fail
 go_loopg [8,9,14] (m + 1) (fun gk v dv iv wr=>∃ (i d:Nat) (O:List UInt8),iv = .int .i64 i∧dv = .int .i64 d∧Hid (FillSt w n b l (tls ts) gk wr v i d O))
 case atStart=>exact ⟨0,0,[],rfl,rfl,HA0⟩
 case round =>
  obtain ⟨i,d,O,rfl,rfl,HJ⟩:=hrel
  clear HA0
  obtain ⟨a8,c8,rfl,h8a,h8b,h8n⟩:=slice_of HJ.out.own
  have hol:=HJ.out.ol
  have hdn:=HJ.out.dn
  have hfew:=HJ.out.few
  have hil:=HJ.out.il
  have hbs:=HJ.out.bel.size
  by_cases hlt:i < m
  ·have hil2:i < l.length:=by rw [← HE.out.1];exact hlt
   have hit:i < ts.length:=by rw [← HE.out.2.1];exact hlt
   obtain ⟨bl,e1,hcl⟩:=HK.out wr HJ.out.bel (fun e=>by rw [e] at hil2;simp at hil2)
   obtain ⟨bt,ot,e2,hct⟩:=HS.out wr HJ.out.bel (fun e=>by rw [e] at hit;simp at hit)
   subst e1;subst e2
   obtain ⟨k0,k1,k2⟩:=hcl i hil2
   have k3:=hct i hit
   have hld:=drop_at l i (0,[]) hil2
   have htd:(tls ts).drop i = (ts.getD i ⟨#[]⟩).data.toList::(tls ts).drop (i + 1):=by
    rw [drop_at (tls ts) i [] (by simp [tls];exact hit)]
    simp [tls,List.getD_eq_getElem?_getD,List.getElem?_eq_getElem hit]
   have hTm:(ts.getD i ⟨#[]⟩).size≤maxLen:=HT.out _ (by rw [List.getD_eq_getElem?_getD,List.getElem?_eq_getElem hit];exact List.getElem_mem hit)
   have hx1:1≤(l.getD i (0,[])).1:=HL.out _ (by rw [List.getD_eq_getElem?_getD,List.getElem?_eq_getElem hil2];exact List.getElem_mem hil2)
   have hord:=HJ.out.ord
   rw [hld] at hord
   obtain ⟨o1,o2,o3,o4⟩:=hord
   have heq:=HJ.out.eq
   rw [hld,htd] at heq
   have hltI:(i:Int) < (m:Int):=by omega
   have HTC:Hid (∀ w',Below w.heap.size w w'→w'.cell? ⟨bt,ot + i,none⟩ = some (.string (ts.getD i ⟨#[]⟩))):=fun w' h=>by
    obtain ⟨b5,o5,e5,h5⟩:=HS.out w' h (fun e=>by rw [e] at hit;simp at hit)
    obtain ⟨rfl,rfl⟩:bt = b5∧ot = o5:=by injection e5 with e5;injection e5 with h1 h2;exact ⟨h1,h2⟩
    exact h5 i hit
   clear hcl hct hld htd
   generalize l.getD i (0,[]) = x at *
   generalize ts.getD i ⟨#[]⟩ = T at *
   obtain ⟨lf,raw⟩:=x
   simp only at *
   unfold maxLen at hTm
   have hblt:=World.block_lt_of_cell? wr _ k0
   have hbtl:=World.block_lt_of_cell? wr _ k3
   simp only at hblt hbtl
   have hwi:IntKind.i64.wrap ((i:Int) + 1) = ((i + 1:Nat):Int):=by rw [IntKind.wrap_i64];omega
   have HB:Hid (Below w.heap.size w wr):=HJ.out.bel
   have HO:Hid (wr.ownsRow w.heap.size 5 1 (.slice a8 O.length c8) O.length (bv O)):=HJ.out.own
   obtain ⟨V2,hV2⟩:∃ V,V = lba (unamp raw):=⟨_,rfl⟩
   rw [← hV2] at k2
   have HEQ:Hid (fillP l (tls ts) b = O ++ fillP ((lf,raw)::l.drop (i + 1)) (T.data.toList::(tls ts).drop (i + 1)) (b.drop d)):=heq
   obtain ⟨F,hF⟩:∃ F,F = n - lf:=⟨_,rfl⟩
   obtain ⟨E,hE⟩:∃ E,E = F + raw.length:=⟨_,rfl⟩
   rw [← hF] at k0 k1 o2 o4
   rw [← hE] at k1 o4
   have hFn:F < n:=by omega
   have hEn:E≤n:=by omega
   have hFE:F≤E:=by omega
   have HBL:Hid (b.length = n):=HE.out.2.2.symm
   have HPT:Hid (T.data.toList ≠ []→fillP l (tls ts) b = (O ++ (b.drop d).take (F - d) ++ T.data.toList) ++ fillP (l.drop (i + 1)) ((tls ts).drop (i + 1)) (b.drop E)):=fun h=>by
    have h1:(b.drop d).length - lf = F - d:=by rw [List.length_drop,HBL.out];omega
    have h2:d + (F - d + raw.length) = E:=by omega
    rw [HEQ.out,fill_put _ _ _ _ _ h]
    simp only [h1,List.drop_drop,h2,List.append_assoc]
   have HKP:Hid (T.data.toList = []→fillP l (tls ts) b = O ++ fillP (l.drop (i + 1)) ((tls ts).drop (i + 1)) (b.drop d)):=fun h=>by
    rw [HEQ.out,h,fill_keep]
   have HD2:Hid (i + 1 < l.length→F + raw.length < n):=fun h=>by
    have h1:=drop_at l (i + 1) (0,[]) h
    rw [h1] at o4
    have h2:=o4.2.1
    have h3:=o4.1
    have h4:1≤(l.getD (i + 1) (0,[])).1:=HL.out _ (by rw [List.getD_eq_getElem?_getD,List.getElem?_eq_getElem h];exact List.getElem_mem h)
    omega
   clear hV2 heq HEQ
   by_cases hTe:T.data.toList = []
   ·have hTz:T.toList.isEmpty = true:=by rw [ByteArray.toList_eq,hTe];rfl
    have HRL:Hid (FillSt w n b l (tls ts) (gk - 1) (wr.alloc (.cells #[.int .i64 (F:Int),.int .i64 (E:Int),.string V2] 40)) (.slice a8 O.length c8) (i + 1) d O):=by
     refine ⟨by omega,by omega,hdn,fun h=>by have:=HD2.out h;omega,hol,o4.mono (by omega),HB.out.alloc hbs _,HO.out.alloc _,HKP.out hTe⟩
    clear HJ hTe o4 HPT HKP HD2 hF hE
    go_wp2_with fail
    go_roundg (gk - 1)
    case measure=>omega
    case rel=>exact ⟨i + 1,d,O,by go_num,rfl,HRL⟩
   ·have hTz:T.toList.isEmpty = false:=by
     rw [ByteArray.toList_eq]
     cases hh:T.data.toList with
     | nil=>exact absurd hh hTe
     | cons y Y=>rfl
    have hEQ:=HPT.out hTe
    obtain ⟨bq,oq,eq,_⟩:=HR.out wr HB.out (fun e=>by have:=HBL.out;rw [e] at this;simp at this;omega)
    have hPr:=(HR.out wr HB.out).part bq oq eq d (F - d)
    subst eq
    have hPl:((b.drop d).take (F - d)).length = F - d:=by rw [List.length_take,List.length_drop,HBL.out];omega
    have hdF:(d:Int)≤(F:Int):=by omega
    have hFc:(F:Int)≤(c:Int):=by omega
    have hFc':F≤c:=by omega
    have hdc:d < c:=by omega
    have HEQ2:Hid (fillP l (tls ts) b = (O ++ (b.drop d).take (F - d) ++ T.data.toList) ++ fillP (l.drop (i + 1)) ((tls ts).drop (i + 1)) (b.drop E)):=hEQ
    have HO4:Hid (Ord n E (l.drop (i + 1))):=o4
    have HDD:Hid (i + 1 < l.length→E < n):=fun h=>by have:=HD2.out h;omega
    have HPR:Hid (BRow wr (some ⟨bq,oq + d,none⟩) ((b.drop d).take (F - d))):=hPr
    have HPL:Hid (((b.drop d).take (F - d)).length = F - d):=hPl
    clear HJ o4 HPT HKP HD2 hF hE hEQ hPr hPl
    generalize (b.drop d).take (F - d) = P at *
    have hba:Below wr.heap.size wr (wr.alloc (.cells #[.int .i64 (F:Int),.int .i64 (E:Int),.string V2] 40)):=(Below.refl _ _).alloc (Nat.le_refl _) _
    have hnew:=lnew wr (.cells #[.int .i64 (F:Int),.int .i64 (E:Int),.string V2] 40)
    go_wp2_with (at_builtin;refine append_bytes rfl (.tmp 24) (.tmp 29) rfl w.heap.size _ O rfl (HO.out.alloc _) _ _ _ P ?c0 rfl (HPR.out.below hba) ?c1 ?c2 ?c3 ?_)
    case c0=>exact HPL.out.symm
    case c1=>intro h;cases h
    case c2=>omega
    case c3=>have:=hba.size;omega
    intro v5 w5 OP HOP hown5 hg5
    have HOB:Hid (∀ k,(Value.slice a8 O.length c8).ownBlock = some k→w.heap.size≤k∧k < wr.heap.size):=HO.out.lt
    have hb5:Below w.heap.size w w5:=(HB.out.alloc hbs _).grown hg5 (by have:=hba.size;omega) (fun k hk=>(HOB.out k hk).1)
    have hl5:w5.heap[wr.heap.size]? = some (.cells #[.int .i64 (F:Int),.int .i64 (E:Int),.string V2] 40):=by
     rw [hg5.block _ (by simp) (by intro e;have:=(HOB.out _ e.symm).2;omega)]
     exact hnew
    have k5:w5.cell? ⟨bt,ot + i,none⟩ = some (.string T):=HTC.out w5 hb5
    obtain ⟨a5,c5,rfl,h5a,h5b,h5n⟩:=slice_of hown5
    have hol5:OP.length≤8000:=by rw [HOP.out,List.length_append,HPL.out];omega
    rw [← HOP.out] at HEQ2
    have HO5:Hid (w5.ownsRow w.heap.size 5 1 (.slice a5 OP.length c5) OP.length (bv OP)):=hown5
    have HB5:Hid (Below w.heap.size w w5):=hb5
    have HL5:Hid (w5.heap[wr.heap.size]? = _):=hl5
    have hs5:=hb5.size
    have hz5:=lltn hl5
    clear hown5 hg5 hl5 hba hnew k0 k1 k2 k3 HOB HO HB hb5
    clear HOP
    have hw4:IntKind.i64.wrap (4000 - (OP.length:Int)) = 4000 - (OP.length:Int):=by rw [IntKind.wrap_i64];omega
    by_cases hbig:(4000:Int) - (OP.length:Int) < (T.size:Int)
    ·have HTOT:Hid (4000 < (fillP l (tls ts) b).length):=by
      unfold Hid
      rw [HEQ2.out,List.length_append,List.length_append,← Lib.size_eq T]
      omega
     clear HEQ2 HO5 HO4 HDD
     go_wp2_with fail
     go_ret2
     exact ⟨HB5.out,.inl ⟨HTOT.out,rfl⟩⟩
    ·have hTs:T.size≤4000:=by omega
     have hOT:OP.length + T.size≤4000:=by omega
     go_wp2_with (at_builtin;refine Lib.wpList_append_own_string _ rfl (.tmp 40) (.tmp 44) 22 9 rfl w.heap.size 5 i0 Tryz.underlying22 Tryz.underlying9 hi hz0 hz1 hz2 _ _ _ rfl HO5.out T rfl ?d1 ?d2 ?d3 ?_)
     case d1=>unfold maxLen;omega
     case d2=>omega
     intro v6 w6 hown6 hg6 _
     have HOB5:Hid (∀ k,(Value.slice a5 OP.length c5).ownBlock = some k→w.heap.size≤k∧k ≠ wr.heap.size):=fun k hk=>by
      refine ⟨(HO5.out.lt k hk).1,fun e=>?_⟩
      rcases HO5.out.2 with ⟨h1,_⟩ | ⟨gg,cap,cur,h1,_,h3,_⟩
      ·injection h1 with h1 _ _
       rw [h1] at hk
       cases hk
      ·rw [h1] at hk
       injection hk with hk
       have hk':gg = k:=hk
       rw [hk',e,HL5.out] at h3
       injection h3 with h3
       injection h3 with _ h3
       cases h3
     have hb6:Below w.heap.size w w6:=HB5.out.grown hg6 hs5 (fun k hk=>(HOB5.out k hk).1)
     have hl6:w6.heap[wr.heap.size]? = some (.cells #[.int .i64 (F:Int),.int .i64 (E:Int),.string V2] 40):=by
      rw [hg6.block _ hz5 (by intro e;exact (HOB5.out _ e.symm).2 rfl)]
      exact HL5.out
     obtain ⟨d0,d1,d2,df⟩:=lcells3 hl6
     have R6:w6.ownsRow w.heap.size 5 1 v6 (OP ++ T.data.toList).length (bv (OP ++ T.data.toList)):=by
      rw [bv_append,List.length_append,← Lib.size_eq T,← lstrCells]
      exact hown6
     have HRL:Hid (FillSt w n b l (tls ts) (gk - 1) w6 v6 (i + 1) E (OP ++ T.data.toList)) :=
      ⟨by omega,by omega,hEn,HDD.out,by rw [List.length_append,← Lib.size_eq T];exact hOT,HO4.out,hb6,R6,HEQ2.out⟩
     clear hown6 hg6 HOB5 hb6 hl6 R6 HEQ2 HO5 HO4 HDD
     go_wp2_with fail
     go_roundg (gk - 1)
     case measure=>omega
     case rel=>exact ⟨i + 1,E,OP ++ T.data.toList,by go_num,rfl,HRL⟩
  ·have him:i = m:=by have:=HE.out.1;omega
   have hnl:¬ (i:Int) < (m:Int):=by omega
   have HEQ:Hid (fillP l (tls ts) b = O ++ b.drop d):=by
    unfold Hid
    rw [HJ.out.eq,him,HE.out.1,List.drop_of_length_le (Nat.le_refl _),fill_end]
   have HB:Hid (Below w.heap.size w wr):=HJ.out.bel
   have HO:Hid (wr.ownsRow w.heap.size 5 1 (.slice a8 O.length c8) O.length (bv O)):=HJ.out.own
   have HBL:Hid (b.length = n):=HE.out.2.2.symm
   have HDL:Hid ((b.drop d).length = n - d):=by unfold Hid;rw [List.length_drop,HBL.out]
   have HRW:Hid (BRow wr q b):=HR.out wr HB.out
   clear HJ
   have hdi:(d:Int)≤(n:Int):=by omega
   have hdnn:d≤c:=by omega
   cases q with
   | none =>
    obtain ⟨h0,hc0⟩:=HQ.out rfl
    have hd0:d = 0:=by omega
    have hbe:b = []:=List.length_eq_zero_iff.1 (by rw [HBL.out];exact h0)
    subst h0 hc0 hd0
    have HBE:Hid (b.drop 0 = []):=by unfold Hid;rw [hbe];rfl
    clear hbe
    go_wp2_with (at_builtin;refine append_bytes rfl (.tmp 49) (.tmp 52) rfl w.heap.size _ O rfl HO.out none 0 0 [] rfl rfl (fun h=>absurd rfl h) (fun _=>⟨rfl,rfl⟩) (by omega) hbs ?_)
    intro v7 w7 OP HOP hown7 hg7
    have hb7:Below w.heap.size w w7:=HB.out.grown hg7 hbs (fun k hk=>(HO.out.lt k hk).1)
    have HEQ3:Hid (fillP l (tls ts) b = OP):=by unfold Hid;rw [HEQ.out,HOP.out,HBE.out,List.append_nil]
    obtain ⟨a7,c7,rfl,h7a,h7b,h7n⟩:=slice_of hown7
    have hOPl:OP.length≤8000:=by rw [HOP.out];omega
    have HO7:Hid (w7.ownsRow w.heap.size 5 1 (.slice a7 OP.length c7) OP.length (bv OP)):=hown7
    have HB7:Hid (Below w.heap.size w w7):=hb7
    clear hown7 hg7 hb7 HO HB HOP HEQ
    by_cases hbig:4000 < OP.length
    ·have hbig':(4000:Int) < (OP.length:Int):=by omega
     go_wp2_with fail
     go_ret2
     show FillPost _ _ _ _
     rw [HEQ3.out]
     exact ⟨HB7.out,.inl ⟨hbig,rfl⟩⟩
    ·have hbig':¬ (4000:Int) < (OP.length:Int):=by omega
     go_wp2_with fail
     go_ret2
     show FillPost _ _ _ _
     rw [HEQ3.out]
     exact ⟨HB7.out,.inr ⟨by omega,_,rfl,HO7.out⟩⟩
   | some aq =>
    have HPR:Hid (BRow wr (some (aq.add d)) (b.drop d)):=brow_drop HRW.out d
    clear HRW
    by_cases hdc:d < c
    ·go_wp2_with (at_builtin;refine append_bytes rfl (.tmp 49) (.tmp 52) rfl w.heap.size _ O rfl HO.out _ _ _ (b.drop d) HDL.out.symm rfl HPR.out (fun h=>by cases h) (by omega) hbs ?_)
     intro v7 w7 OP HOP hown7 hg7
     have hb7:Below w.heap.size w w7:=HB.out.grown hg7 hbs (fun k hk=>(HO.out.lt k hk).1)
     have HEQ3:Hid (fillP l (tls ts) b = OP):=by unfold Hid;rw [HEQ.out,HOP.out]
     obtain ⟨a7,c7,rfl,h7a,h7b,h7n⟩:=slice_of hown7
     have hOPl:OP.length≤8000:=by rw [HOP.out];simp only [List.length_append];have:=HDL.out;omega
     have HO7:Hid (w7.ownsRow w.heap.size 5 1 (.slice a7 OP.length c7) OP.length (bv OP)):=hown7
     have HB7:Hid (Below w.heap.size w w7):=hb7
     clear hown7 hg7 hb7 HO HB HOP HEQ
     by_cases hbig:4000 < OP.length
     ·have hbig':(4000:Int) < (OP.length:Int):=by omega
      go_wp2_with fail
      go_ret2
      show FillPost _ _ _ _
      rw [HEQ3.out]
      exact ⟨HB7.out,.inl ⟨hbig,rfl⟩⟩
     ·have hbig':¬ (4000:Int) < (OP.length:Int):=by omega
      go_wp2_with fail
      go_ret2
      show FillPost _ _ _ _
      rw [HEQ3.out]
      exact ⟨HB7.out,.inr ⟨by omega,_,rfl,HO7.out⟩⟩
    ·have hdc2:d = c:=by omega
     have hnc2:n = c:=by omega
     have HBE:Hid (b.drop d = []):=by unfold Hid;rw [List.drop_of_length_le (by rw [HBL.out];omega)]
     subst hdc2
     subst hnc2
     go_wp2_with (at_builtin;refine append_bytes rfl (.tmp 49) (.tmp 52) rfl w.heap.size _ O rfl HO.out _ _ _ [] ?e0 rfl (fun h=>absurd rfl h) (fun h=>by cases h) ?e1 hbs ?_)
     case e1=>omega
     intro v7 w7 OP HOP hown7 hg7
     have hb7:Below w.heap.size w w7:=HB.out.grown hg7 hbs (fun k hk=>(HO.out.lt k hk).1)
     have HEQ3:Hid (fillP l (tls ts) b = OP):=by unfold Hid;rw [HEQ.out,HOP.out,HBE.out,List.append_nil]
     obtain ⟨a7,c7,rfl,h7a,h7b,h7n⟩:=slice_of hown7
     have hOPl:OP.length≤8000:=by rw [HOP.out];omega
     have HO7:Hid (w7.ownsRow w.heap.size 5 1 (.slice a7 OP.length c7) OP.length (bv OP)):=hown7
     have HB7:Hid (Below w.heap.size w w7):=hb7
     clear hown7 hg7 hb7 HO HB HOP HEQ
     by_cases hbig:4000 < OP.length
     ·have hbig':(4000:Int) < (OP.length:Int):=by omega
      go_wp2_with fail
      go_ret2
      show FillPost _ _ _ _
      rw [HEQ3.out]
      exact ⟨HB7.out,.inl ⟨hbig,rfl⟩⟩
     ·have hbig':¬ (4000:Int) < (OP.length:Int):=by omega
      go_wp2_with fail
      go_ret2
      show FillPost _ _ _ _
      rw [HEQ3.out]
      exact ⟨HB7.out,.inr ⟨by omega,_,rfl,HO7.out⟩⟩
end Go.Proofs.YtbbfcbodhmeanaaGreatDoor



namespace Go.Proofs.YtbbfcbodhmeanaaGreatDoor
open Go.RowKit
def PutPost (w:World) (r:List UInt8 × Nat) (e:Ending) (w':World):Prop:=Below w.heap.size w w' ∧
 ((r.2 ≠ 0∧e = .returned (.tuple #[.slice none 0 0,.int .i64 (r.2:Int)])) ∨ (r.2 = 0∧∃ v,e = .returned (.tuple #[v,.int .i64 0])∧w'.ownsRow w.heap.size 5 1 v r.1.length (bv r.1)))
theorem tls_all (ts:List ByteArray) (k:Nat) (h:k < ts.length):((tls ts).drop k).all plainT = (plainT (ts.getD k ⟨#[]⟩).data.toList && ((tls ts).drop (k + 1)).all plainT):=by
 rw [drop_at (tls ts) k [] (by simp [tls];exact h),List.all_cons]
 congr 2
 simp [tls,List.getD_eq_getElem?_getD,List.getElem?_eq_getElem h]
theorem FillPost.put {w w1 w':World} {out:List UInt8} {e:Ending} (h:FillPost w1 out e w') (hb:Below w.heap.size w w1):PutPost w (if 4000 < out.length then ([],2) else (out,0)) e w':=by
 obtain ⟨h1,h2⟩:=h
 refine ⟨hb.trans (h1.mono hb.size),?_⟩
 rcases h2 with ⟨h3,rfl⟩ | ⟨h3,v,rfl,h4⟩
 ·left;rw [if_pos h3];exact ⟨by decide,rfl⟩
 ·right;rw [if_neg (by omega)];exact ⟨rfl,v,rfl,ownsRow_base h4 hb.size⟩
set_option maxHeartbeats 8000000 in
set_option maxRecDepth 100000 in
theorem put_any (w0:World) (HE:LEnv w0) (q:Option Addr) (n c:Nat) (b:List UInt8) (en:n = b.length) (hnc:n≤c) (hcm:c≤maxLen) (a2:Option Addr) (m c2:Nat) (ts:List ByteArray) (et:m = ts.length) (hmm:m≤maxLen) (hts:∀ t ∈ ts,t.size≤maxLen)
  (w:World) (hb:Below w0.heap.size w0 w) (hr:BRow w q b) (hq:q = none→n = 0∧c = 0) (hs:TxRow w a2 ts) :
  Calls Tryz.prog 38 #[.slice q n c,.slice a2 m c2] w fun e w'=>PutPost w (putP lowT b (tls ts)) e w':=by
 have CF:Hid (Calls Tryz.prog 35 #[.slice q n c] w fun e w'=>FindPost w b.length (findP lowT b) e w'):=find_any w0 HE q n c b en w hb hr hq
 cases hf:findP lowT b with
 | none =>
  rw [hf] at CF
  have HN:Hid (putP lowT b (tls ts) = ([],2)):=by unfold Hid putP;rw [hf]
  clear hf HE hts en et hq hs hr
  go_enter Tryz.func38,Tryz.ntmps38
  go_wp2_with fail
  refine CF.out.mono ?_
  rintro e w1 ⟨hb1,rfl⟩
  clear CF
  go_wp2_with fail
  go_ret2
  show PutPost _ _ _ _
  rw [HN.out]
  exact ⟨hb1,.inl ⟨by decide,rfl⟩⟩
 | some l =>
  rw [hf] at CF
  obtain ⟨ho,hl60,hb4⟩:=find_ord lowT b l hf
  have hleft:=findP_left lowT b l hf
  by_cases hml:m = l.length
  ·have CP:Hid (∀ (k:Nat) (W:World),k < m→Calls Tryz.prog 77 #[.string (ts.getD k ⟨#[]⟩)] W fun e w'=>e = .returned (.bool (plainT (ts.getD k ⟨#[]⟩).data.toList))∧w' = W):=fun k W hk=>plain_any _ W (hts _ (by rw [List.getD_eq_getElem?_getD,List.getElem?_eq_getElem (by omega)];exact List.getElem_mem _))
   have HS:Hid (TxRow w a2 ts):=hs
   have HA:Hid (∀ k,k < m→((tls ts).drop k).all plainT = (plainT (ts.getD k ⟨#[]⟩).data.toList && ((tls ts).drop (k + 1)).all plainT)):=fun k hk=>tls_all ts k (by omega)
   have HZ:Hid (((tls ts).drop m).all plainT = true):=by unfold Hid;rw [List.drop_of_length_le (by simp [tls];omega)];rfl
   have HBAD:Hid ((tls ts).all plainT = false→putP lowT b (tls ts) = ([],1)):=fun h=>by
    unfold putP;rw [hf];simp only
    rw [if_neg (by simp [tls];omega),if_pos h]
   have HOKK:Hid ((tls ts).all plainT = true→putP lowT b (tls ts) = if 4000 < (fillP l (tls ts) b).length then ([],2) else (fillP l (tls ts) b,0)):=fun h=>by
    unfold putP;rw [hf];simp only
    rw [if_neg (by simp [tls];omega),if_neg (by rw [h];decide)]
   have HF:Hid (∀ a1 c1 W,l.length≤c1→c1≤maxLen→Below w.heap.size w W→KRow W a1 b.length l→Calls Tryz.prog 78 #[.slice q n c,.slice a1 m c1,.slice a2 m c2] W fun e w'=>FillPost W (fillP l (tls ts) b) e w'):=fun a1 c1 W h1 h2 h3 h4 =>
    filled_any q n c b en (by omega) hnc hcm a1 m c1 l hml h2 (by omega) a2 c2 ts et hts W (hr.below h3) hq (en ▸ h4) (hs.below h3) (en ▸ ho) hleft
   have HTM:Hid (m = ts.length):=et
   unfold maxLen at hmm
   have hm60:m≤60:=by omega
   unfold FindPost at CF
   simp only at CF
   rw [← hml] at CF
   have HML:Hid (m = l.length):=hml
   clear hf HE hts en et hq hs hr ho hleft hml hcm
   go_enter Tryz.func38,Tryz.ntmps38
   go_wp2_with fail
   refine CF.out.mono ?_
   rintro e w1 ⟨hb1,v1,rfl,own1⟩
   have own1':w1.ownsRow w.heap.size 40 3 v1 l.length (lv b.length l):=by rw [← HML.out];exact own1
   obtain ⟨a1,c1,rfl,h1a,h1b,h1n,hk1⟩:=owned_links own1'
   rw [← HML.out]
   have HK:Hid (KRow w1 a1 b.length l):=hk1
   have HS1:Hid (TxRow w1 a2 ts):=HS.out.below hb1
   clear CF own1 own1' hk1 HS
   go_wp2_with fail
   go_loop [25] (fun iv=>∃ k:Nat,k≤m∧iv = .int .i64 k∧Hid (((tls ts).drop k).all plainT = (tls ts).all plainT)) (fun iv=>m - (intOf iv).toNat)
   case atStart=>exact ⟨0,Nat.zero_le _,rfl,rfl⟩
   case round =>
    obtain ⟨k,hk,rfl,HQ⟩:=hrel
    by_cases hlt:k < m
    ·obtain ⟨bt,ot,e2,hct⟩:=HS1.out (fun e=>by have:=HTM.out;rw [e] at this;simp at this;omega)
     subst e2
     have k3:=hct k (by rw [← HTM.out];exact hlt)
     have hki:(k:Int) < (m:Int):=by omega
     have HC:Hid (∀ W,Calls Tryz.prog 77 #[.string (ts.getD k ⟨#[]⟩)] W fun e w'=>e = .returned (.bool (plainT (ts.getD k ⟨#[]⟩).data.toList))∧w' = W):=fun W=>CP.out k W hlt
     have HAK:=HA.out k hlt
     have hwk:IntKind.i64.wrap ((k:Int) + 1) = ((k + 1:Nat):Int):=by rw [IntKind.wrap_i64];omega
     clear hct
     generalize ts.getD k ⟨#[]⟩ = T at *
     cases hp:plainT T.data.toList with
     | true =>
      rw [hp] at HC HAK
      have HN:Hid (((tls ts).drop (k + 1)).all plainT = (tls ts).all plainT):=by unfold Hid;rw [← HQ.out,HAK];rfl
      clear HAK HQ hp
      go_wp2_with fail
      refine (HC.out _).mono ?_
      rintro e w3 ⟨rfl,hw3⟩
      have hw4:=hw3.symm
      subst hw4
      go_wp2_with fail
      go_round
      case rel=>exact ⟨k + 1,by omega,by go_num,HN⟩
      case measure=>simp [intOf];omega
     | false =>
      rw [hp] at HC HAK
      have HN:Hid (putP lowT b (tls ts) = ([],1)):=HBAD.out (by rw [← HQ.out,HAK];rfl)
      clear HAK HQ hp
      go_wp2_with fail
      refine (HC.out _).mono ?_
      rintro e w3 ⟨rfl,hw3⟩
      have hw4:=hw3.symm
      subst hw4
      go_wp2_with fail
      go_ret2
      show PutPost _ _ _ _
      rw [HN.out]
      exact ⟨hb1,.inl ⟨by decide,rfl⟩⟩
    ·obtain rfl:k = m:=by omega
     have HN:=HOKK.out (by rw [← HQ.out];exact HZ.out)
     have HNN:Hid (putP lowT b (tls ts) = if 4000 < (fillP l (tls ts) b).length then ([],2) else (fillP l (tls ts) b,0)):=HN
     clear HN HQ
     go_wp2_with fail
     refine (HF.out a1 c1 w1 (by have:=HML.out;omega) h1b hb1 HK.out).mono ?_
     rintro e w3 hpo
     obtain ⟨hb3,hd⟩:=hpo
     rcases hd with ⟨h4,rfl⟩ | ⟨h4,v3,rfl,own3⟩
     ·have HPP:Hid (PutPost w (putP lowT b (tls ts)) (.returned (.tuple #[.slice none 0 0,.int .i64 2])) w3):=by
       unfold Hid
       rw [HNN.out]
       exact FillPost.put ⟨hb3,.inl ⟨h4,rfl⟩⟩ hb1
      go_wp2_with fail
      go_ret2
      exact HPP.out
     ·have HPP:Hid (PutPost w (putP lowT b (tls ts)) (.returned (.tuple #[v3,.int .i64 0])) w3):=by
       unfold Hid
       rw [HNN.out]
       exact FillPost.put ⟨hb3,.inr ⟨h4,v3,rfl,own3⟩⟩ hb1
      go_wp2_with fail
      go_ret2
      exact HPP.out
  ·have HN:Hid (putP lowT b (tls ts) = ([],4)):=by
    unfold Hid putP;rw [hf];simp only
    rw [if_pos (by simp [tls];omega)]
   have hne:((m:Int) == (l.length:Int)) = false:=by rw [beq_eq_false_iff_ne];omega
   have hne':¬ (m:Int) = (l.length:Int):=by omega
   unfold FindPost at CF
   simp only at CF
   clear hf HE hts en et hq hs hr ho hleft hml
   generalize l.length = nl at *
   go_enter Tryz.func38,Tryz.ntmps38
   go_wp2_with fail
   refine CF.out.mono ?_
   rintro e w1 ⟨hb1,v1,rfl,own1⟩
   obtain ⟨a1,c1,rfl,_⟩:=slice_of own1
   clear CF own1
   go_wp2_with fail
   go_ret2
   show PutPost _ _ _ _
   rw [HN.out]
   exact ⟨hb1,.inl ⟨by decide,rfl⟩⟩
end Go.Proofs.YtbbfcbodhmeanaaGreatDoor



namespace Go.Proofs.YtbbfcbodhmeanaaGreatDoor
open Go.RowKit
def fillB (ts:List ByteArray) (b:List UInt8):List UInt8 × Nat:=if ts = [] then (b,0) else putP lowT b (tls ts)
def FilPost (W:World) (b o:Nat) (R:List UInt8 × Nat) (ts:List ByteArray) (e:Ending) (w':World):Prop :=
 (ts = []∧e = .returned (.int .i64 0)∧w' = W) ∨ (ts ≠ []∧R.2 ≠ 0∧e = .returned (.int .i64 (R.2:Int))∧Below W.heap.size W w') ∨
   (ts ≠ []∧R.2 = 0∧e = .returned (.int .i64 0)∧∃ W1 q c,Below W.heap.size W W1∧W1.ownsRow W.heap.size 5 1 (.slice q R.1.length c) R.1.length (bv R.1)∧w' = W1.setCell ⟨b,o + 5,none⟩ (.slice q R.1.length c))
set_option maxHeartbeats 4000000 in
set_option maxRecDepth 100000 in
theorem fill_any (w0:World) (HE:LEnv w0) (b o:Nat) (body:List UInt8) (pb:Option Addr) (n cb:Nat) (en:n = body.length) (hnc:n≤cb) (hcm:cb≤maxLen) (hq:pb = none→n = 0∧cb = 0) (a2:Option Addr) (m c2:Nat) (ts:List ByteArray) (et:m = ts.length) (hmm:m≤maxLen) (htm:∀ t ∈ ts,t.size≤maxLen) (W:World) (hb:Below w0.heap.size w0 W) (hc:W.cell? ⟨b,o + 5,none⟩ = some (.slice pb n cb)) (hf:∀ W',Below W.heap.size W W'→W'.frozen? ⟨b,o + 5,none⟩ = false) (hr:BRow W pb body) (hs:TxRow W a2 ts) :
  Calls Tryz.prog 65 #[.pointer (some ⟨b,o,none⟩),.slice a2 m c2] W fun e w'=>FilPost W b o (fillB ts body) ts e w':=by
 unfold maxLen at hmm
 cases ts with
 | nil =>
  obtain rfl:m = 0:=et
  clear HE en hnc hcm hq hb hc hf hr hs htm
  go_enter Tryz.func65,Tryz.ntmps65
  go_wp2_with fail
  go_ret
  exact .inl ⟨rfl,rfl,rfl⟩
 | cons t0 tr =>
  have hm0:0 < m:=by rw [et];simp
  have hmz:¬ (m:Int) = 0:=by omega
  have CP:Hid (Calls Tryz.prog 38 #[.slice pb n cb,.slice a2 m c2] W fun e w'=>PutPost W (putP lowT body (tls (t0::tr))) e w'):=put_any w0 HE pb n cb body en hnc hcm a2 m c2 (t0::tr) et (by unfold maxLen;omega) htm W hb hr hq hs
  have HF:Hid (fillB (t0::tr) body = putP lowT body (tls (t0::tr))):=rfl
  have HFZ:Hid (∀ W',Below W.heap.size W W'→W'.frozen? ⟨b,o + 5,none⟩ = false):=hf
  have hbl:b < W.heap.size:=World.block_lt_of_cell? W _ hc
  have HC:Hid (W.cell? ⟨b,o + 5,none⟩ = some (.slice pb n cb)):=hc
  have HNE:Hid (t0::tr ≠ []):=by unfold Hid;simp
  rw [HF.out]
  generalize putP lowT body (tls (t0::tr)) = R at *
  generalize t0::tr = TS at *
  obtain ⟨RB,RE⟩:=R
  clear HE en hnc hcm hq hb hf hr hs htm et HF
  go_enter Tryz.func65,Tryz.ntmps65
  go_wp2_with fail
  refine CP.out.mono ?_
  rintro e w1 ⟨hb1,h1⟩
  have HB1:Hid (Below W.heap.size W w1):=hb1
  rcases h1 with ⟨hne,rfl⟩ | ⟨h0,v,rfl,hown⟩
  ·simp only at hne
   have hz:((RE:Int) == 0) = false:=by rw [beq_eq_false_iff_ne];omega
   have hz2:¬ (RE:Int) = 0:=by omega
   have HNZ:Hid (RE ≠ 0):=hne
   clear hne hb1 CP hc
   go_wp2_with fail
   go_ret
   exact .inr (.inl ⟨HNE.out,HNZ.out,rfl,HB1.out⟩)
  ·simp only at h0
   subst h0
   obtain ⟨q,c,rfl⟩:=owned_slice hown
   have HO:Hid (w1.ownsRow W.heap.size 5 1 (.slice q RB.length c) RB.length (bv RB)):=hown
   have c1:w1.cell? ⟨b,o + 5,none⟩ = some (.slice pb n cb):=(hb1.cell (p:=⟨b,o + 5,none⟩) hbl).trans HC.out
   have f1:w1.frozen? ⟨b,o + 5,none⟩ = false:=HFZ.out _ hb1
   clear hown hb1 CP hc
   go_wp2_with fail
   go_ret
   exact .inr (.inr ⟨HNE.out,rfl,rfl,w1,q,c,HB1.out,HO.out,rfl⟩)
end Go.Proofs.YtbbfcbodhmeanaaGreatDoor

