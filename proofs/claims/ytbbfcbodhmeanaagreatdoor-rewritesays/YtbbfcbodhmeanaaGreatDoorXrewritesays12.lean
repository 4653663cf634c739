
import Derived.Test.YtbbfcbodhmeanaaGreatDoorXrewritesays11
import Derived.Lib.AppendStr
namespace Go.Proofs.YtbbfcbodhmeanaaGreatDoor
def repl:List SG→List (List UInt8)→List SG
 | [],_=>[]
 | (false,x)::ss,ts=>(false,x)::repl ss ts
 | (true,r)::ss,t::ts=>(true,if t = [] then r else t)::repl ss ts
 | (true,r)::ss,[]=>(true,r)::repl ss []
theorem fill_repl:∀ (ss:List SG) (ts:List (List UInt8)) (pre:List UInt8),ts.length = (leftsS ss 0).length→fillP (leftsS ss 0) ts (pre ++ flatS ss) = pre ++ flatS (repl ss ts)
 | [],ts,pre,h=>by
  obtain rfl:ts = []:=List.length_eq_zero_iff.1 h
  rfl
 | (false,x)::ss,ts,pre,h=>by
  rw [lefts_lit] at h ⊢
  have:=fill_repl ss ts (pre ++ x) h
  rw [flat_cons,← List.append_assoc,this,repl,flat_cons,List.append_assoc]
 | (true,r)::ss,[],pre,h=>by rw [lefts_val] at h;cases h
 | (true,r)::ss,t::ts,pre,h=>by
  rw [lefts_val] at h ⊢
  have hl:ts.length = (leftsS ss 0).length:=by simpa using h
  rw [fillP,repl]
  split
  ·have:=fill_repl ss ts (pre ++ r) hl
   rw [flat_cons,← List.append_assoc,this,flat_cons,List.append_assoc]
  ·have:=fill_repl ss ts [] hl
   rw [List.nil_append,List.nil_append] at this
   have e1:(pre ++ flatS ((true,r)::ss)).length - ((r ++ flatS ss).length + 0) = pre.length:=by rw [flat_cons];simp only [List.length_append];omega
   simp only
   rw [e1,flat_cons,List.take_left,← List.drop_drop,List.drop_left,List.drop_left,this,flat_cons,List.append_assoc]
theorem rep_repl:∀ (ss:List SG) (ts:List (List UInt8)),ts.all plainT = true→Rep ss (repl ss ts)
 | [],_,_=>trivial
 | (false,x)::ss,ts,h=>⟨rfl,(fun e=>by cases e),fun _=>rfl,rep_repl ss ts h⟩
 | (true,r)::ss,[],h=>⟨rfl,fun _=>.inl rfl,(fun e=>by cases e),rep_repl ss [] h⟩
 | (true,r)::ss,t::ts,h=>by
  simp only [List.all_cons,Bool.and_eq_true] at h
  refine ⟨rfl,fun _=>?_,(fun e=>by cases e),rep_repl ss ts h.2⟩
  show okR r (if t = [] then r else t)
  split
  ·exact .inl rfl
  ·rename_i ht
   exact .inr ⟨ht,h.1⟩
theorem puts_plain (low:List UInt8→List UInt8) (b:List UInt8) (l:List LK) (ts:List (List UInt8)) (hf:findP low b = some l) (hl:ts.length = l.length) (hp:ts.all plainT = true) (hc:(fillP l ts b).length≤4000) :
  ∃ ss,b = flatS ss∧l = leftsS ss 0∧fillP l ts b = flatS (repl ss ts)∧findP low (fillP l ts b) = some (leftsS (repl ss ts) 0):=by
 unfold findP at hf
 split at hf
 ·cases hf
 ·obtain ⟨ss,h1,h2,h3⟩:=find_seg low b.length [] b l (Nat.le_refl _) hf
  rw [List.nil_append] at h2
  have hfill:fillP l ts b = flatS (repl ss ts):=by
   have:=fill_repl ss ts [] (by rw [← h2];exact hl)
   rw [List.nil_append,List.nil_append,← h1,← h2] at this
   exact this
  refine ⟨ss,h1,h2,hfill,?_⟩
  rw [hfill] at hc ⊢
  unfold findP
  rw [if_neg (by omega)]
  have:=(h3 (repl ss ts) [] (flatS (repl ss ts)).length (rep_repl ss ts hp) rfl (Nat.le_refl _)).1
  rw [this,List.nil_append]
theorem repl_lefts:∀ (ss:List SG) (ts:List (List UInt8)) (k m:Nat),(leftsS (repl ss ts) k).length = (leftsS ss m).length
 | [],_,_,_=>rfl
 | (false,x)::ss,ts,k,m=>by rw [repl,lefts_lit,lefts_lit];exact repl_lefts ss ts k m
 | (true,r)::ss,[],k,m=>by rw [repl,lefts_val,lefts_val];simp [repl_lefts ss [] k m]
 | (true,r)::ss,t::ts,k,m=>by rw [repl,lefts_val,lefts_val];simp [repl_lefts ss ts k m]
theorem next_link:∀ (ss:List SG) (ts:List (List UInt8)) (x:LK) (ls:List LK) (t:List UInt8) (ts':List (List UInt8)),leftsS ss 0 = x::ls→ts = t::ts' →
  ∃ lit ss1,flatS ss = lit ++ (x.2 ++ flatS ss1)∧x.1 = (x.2 ++ flatS ss1).length∧ls = leftsS ss1 0 ∧
   ∃ r',r' = (if t = [] then x.2 else t)∧flatS (repl ss ts) = lit ++ (r' ++ flatS (repl ss1 ts'))∧leftsS (repl ss ts) 0 = ((r' ++ flatS (repl ss1 ts')).length,r')::leftsS (repl ss1 ts') 0
 | [],_,_,_,_,_,h,_=>by cases h
 | (false,y)::ss,ts,x,ls,t,ts',h,e=>by
  rw [lefts_lit] at h
  obtain ⟨lit,ss1,h1,h2,h3,r',h4,h5,h6⟩:=next_link ss ts x ls t ts' h e
  refine ⟨y ++ lit,ss1,by rw [flat_cons,h1,List.append_assoc],h2,h3,r',h4,?_,?_⟩
  ·rw [repl,flat_cons,h5,List.append_assoc]
  ·rw [repl,lefts_lit,h6]
 | (true,r)::ss,ts,x,ls,t,ts',h,e=>by
  subst e
  rw [lefts_val] at h
  obtain ⟨rfl,rfl⟩:=List.cons.inj h
  refine ⟨[],ss,by rw [flat_cons];rfl,rfl,rfl,_,rfl,?_,?_⟩
  ·rw [repl,flat_cons];rfl
  ·rw [repl,lefts_val];rfl
theorem index_no (d:UInt8) (s a:List UInt8) (h:∀ c ∈ a,c ≠ d):Lib.index a (d::s) = -1:=by
 induction a with
 | nil=>rfl
 | cons c a ih =>
  have hc:(d == c) = false:=by simp;exact fun e=>h c (by simp) e.symm
  have:=ih (fun e he=>h e (by simp [he]))
  simp [Lib.index,List.isPrefixOf,hc,this]
theorem unamp_no (t:List UInt8) (h:∀ c ∈ t,c ≠ 38):unamp t = t:=by
 have hi:Lib.index t ampL = -1:=index_no 38 [97,109,112,59] t h
 unfold unamp Lib.replaceAll Lib.replace
 rw [if_neg (by decide)]
 have:Lib.count t ampL = 0:=Lib.count_miss hi
 unfold Lib.replaceNum
 rw [if_pos (.inl (by decide)),this]
 rfl
theorem unamp_plain (t:List UInt8) (h:plainT t = true):unamp t = t:=unamp_no t fun c hc=>(okT_facts (List.all_eq_true.1 h c hc)).2.2.2
end Go.Proofs.YtbbfcbodhmeanaaGreatDoor



namespace Go.Proofs.YtbbfcbodhmeanaaGreatDoor
open Go.RowKit
def KRow (w:World) (p:Option Addr) (N:Nat) (l:List LK):Prop:=l ≠ []→∃ b,p = some ⟨b,0,none⟩∧∀ i,i < l.length→w.cell? ⟨b,i * 3,none⟩ = some (.int .i64 ((N - (l.getD i (0,[])).1:Nat):Int))∧w.cell? ⟨b,i * 3 + 1,none⟩ = some (.int .i64 ((N - (l.getD i (0,[])).1 + (l.getD i (0,[])).2.length:Nat):Int))∧w.cell? ⟨b,i * 3 + 2,none⟩ = some (.string (lba (unamp (l.getD i (0,[])).2)))
theorem KRow.below {w w':World} {p:Option Addr} {N:Nat} {l:List LK} (h:KRow w p N l) (hb:Below w.heap.size w w'):KRow w' p N l:=by
 intro hne
 obtain ⟨b,rfl,hc⟩:=h hne
 refine ⟨b,rfl,fun i hi=>?_⟩
 obtain ⟨c0,c1,c2⟩:=hc i hi
 have hlt:=World.block_lt_of_cell? w _ c0
 exact ⟨(hb.cell (p:=⟨b,i * 3,none⟩) hlt).trans c0,(hb.cell (p:=⟨b,i * 3 + 1,none⟩) hlt).trans c1,(hb.cell (p:=⟨b,i * 3 + 2,none⟩) hlt).trans c2⟩
theorem lv_get (N:Nat):∀ (l:List LK) (i:Nat),i < l.length→(lv N l)[i * 3]? = some (.int .i64 ((N - (l.getD i (0,[])).1:Nat):Int))∧(lv N l)[i * 3 + 1]? = some (.int .i64 ((N - (l.getD i (0,[])).1 + (l.getD i (0,[])).2.length:Nat):Int))∧(lv N l)[i * 3 + 2]? = some (.string (lba (unamp (l.getD i (0,[])).2)))
 | [],i,h=>by simp at h
 | x::l,0,_=>by simp [lv,lkv]
 | x::l,i + 1,h=>by
  have e:lv N (x::l) = (lkv N x).toList ++ lv N l:=by simp [lv]
  have hl:(lkv N x).toList.length = 3:=by simp [lkv]
  have:=lv_get N l i (by simpa using h)
  have e1:∀ j,((lkv N x).toList ++ lv N l)[(i + 1) * 3 + j]? = (lv N l)[i * 3 + j]?:=fun j=>by
   rw [List.getElem?_append_right (by rw [hl];omega),hl,show (i + 1) * 3 + j - 3 = i * 3 + j from by omega]
  have e0:=e1 0
  simp only [Nat.add_zero] at e0
  rw [e,e0,e1 1,e1 2]
  simpa using this
theorem owned_links {w:World} {B N:Nat} {v:Value} {l:List LK} (h:w.ownsRow B 40 3 v l.length (lv N l)):∃ p c,v = .slice p l.length c∧l.length≤c∧c≤maxLen∧(p = none→l.length = 0∧c = 0)∧KRow w p N l:=by
 have hcl:=fun g hg=>h.cells (g:=g) hg
 rcases h.2 with ⟨rfl,h0⟩ | ⟨g,cap,cur,rfl,_,_,hn,hm,_,_⟩
 ·exact ⟨none,0,by rw [h0],by omega,by decide,fun _=>⟨h0,rfl⟩,fun hne=>absurd (List.length_eq_zero_iff.1 h0) hne⟩
 ·refine ⟨some ⟨g,0,none⟩,cap,rfl,hn,hm,(fun h=>by cases h),fun hne=>⟨g,rfl,fun i hi=>?_⟩⟩
  obtain ⟨c0,c1,c2⟩:=lv_get N l i hi
  have k0:=hcl g rfl (i * 3) _ c0
  have k1:=hcl g rfl (i * 3 + 1) _ c1
  have k2:=hcl g rfl (i * 3 + 2) _ c2
  rw [Addr.add_lit,Nat.zero_add] at k0 k1 k2
  exact ⟨k0,k1,k2⟩
def Ord (N:Nat):Nat→List LK→Prop
 | _,[]=>True
 | d,x::ls=>x.1≤N∧d≤N - x.1∧x.2.length≤x.1∧Ord N (N - x.1 + x.2.length) ls
theorem Ord.mono {N:Nat}:∀ {l:List LK} {d d':Nat},Ord N d l→d'≤d→Ord N d' l
 | [],_,_,_,_=>trivial
 | _::_,_,_,h,hd=>⟨h.1,Nat.le_trans hd h.2.1,h.2.2.1,h.2.2.2⟩
theorem ord_lefts:∀ (ss:List SG) (N d:Nat),d + (flatS ss).length = N→Ord N d (leftsS ss 0)
 | [],_,_,_=>trivial
 | (false,t)::ss,N,d,h=>by
  rw [lefts_lit]
  rw [flat_cons,List.length_append] at h
  exact (ord_lefts ss N (d + t.length) (by omega)).mono (by omega)
 | (true,t)::ss,N,d,h=>by
  rw [lefts_val]
  rw [flat_cons,List.length_append] at h
  have e:N - ((t ++ flatS ss).length + 0) = d:=by rw [List.length_append];omega
  refine ⟨by simp only [List.length_append];omega,by simp only [e];omega,by simp only [List.length_append];omega,?_⟩
  simp only [e]
  exact ord_lefts ss N (d + t.length) (by omega)
theorem find_ord (low:List UInt8→List UInt8) (b:List UInt8) (l:List LK) (h:findP low b = some l):Ord b.length 0 l∧l.length≤60∧b.length≤4000:=by
 unfold findP at h
 split at h
 ·cases h
 ·rename_i h4
  obtain ⟨ss,h1,h2,_⟩:=find_seg low b.length [] b l (Nat.le_refl _) h
  rw [List.nil_append] at h2
  refine ⟨by rw [h2];exact ord_lefts ss b.length 0 (by rw [← h1];simp),?_,by omega⟩
  have:∀ (n:Nat) (acc:List LK) (s:List UInt8) (L:List LK),findF low n acc s = some L→acc.length≤60→L.length≤60:=by
   intro n
   induction n with
   | zero=>intro acc s L h ha;simp only [findF,Option.some.injEq] at h;rw [← h];exact ha
   | succ n ih =>
    intro acc s L h ha
    rw [findF] at h
    split at h
    ·simp only [Option.some.injEq] at h;rw [← h];exact ha
    ·split at h
     ·cases h
     ·rename_i h60
      exact ih _ _ _ h (by omega)
  exact this _ _ _ _ h (by simp)
end Go.Proofs.YtbbfcbodhmeanaaGreatDoor



namespace Go.Proofs.YtbbfcbodhmeanaaGreatDoor
open Go.RowKit
theorem plain_cons (c:UInt8) (t:List UInt8):plainT (c::t) = (okT c && plainT t):=rfl
set_option maxHeartbeats 2000000 in
theorem plain_any (s:ByteArray) (w:World) (hs:s.size≤maxLen) :
  Calls Tryz.prog 77 #[.string s] w fun e w'=>e = .returned (.bool (plainT s.data.toList))∧w' = w:=by
 unfold maxLen at hs
 go_enter Tryz.func77,Tryz.ntmps77
 go_wp2
 go_loop [6] (fun iv=>∃ k:Nat,k≤s.size∧iv = .int .i64 k∧Hid (plainT (s.data.toList.drop k) = plainT s.data.toList)) (fun iv=>s.size - (intOf iv).toNat)
 case atStart=>exact ⟨0,Nat.zero_le _,rfl,rfl⟩
 case round =>
  obtain ⟨k,hk,rfl,HK⟩:=hrel
  by_cases hlt:k < s.size
  ·have hdr:Hid (plainT (s.data.toList.drop k) = (okT s[k] && plainT (s.data.toList.drop (k + 1)))):=by unfold Hid;rw [dropB s k hlt,plain_cons]
   by_cases h1:s[k].toNat < 33
   ·have HN:Hid (plainT s.data.toList = false):=by
     unfold Hid
     rw [← HK.out,hdr.out,show okT s[k] = false from by simp [okT];omega];rfl
    have h1':(s[k].toNat:Int) < 33:=by omega
    clear hdr HK
    go_wp2
    go_ret
    exact ⟨by rw [HN.out];rfl,rfl⟩
   ·have h1':decide ((s[k].toNat:Int) < 33) = false:=by simp;omega
    by_cases h2:126 < s[k].toNat
    ·have HN:Hid (plainT s.data.toList = false):=by
      unfold Hid
      rw [← HK.out,hdr.out,show okT s[k] = false from by simp [okT];omega];rfl
     have h2':(126:Int) < (s[k].toNat:Int):=by omega
     clear hdr HK
     go_wp2
     go_ret
     exact ⟨by rw [HN.out];rfl,rfl⟩
    ·have h2':decide ((126:Int) < (s[k].toNat:Int)) = false:=by simp;omega
     cases h3:([34,39,60,62,38,61]:List UInt8).contains s[k]
     ·have HN:Hid (plainT (s.data.toList.drop (k + 1)) = plainT s.data.toList):=by
       unfold Hid
       rw [← HK.out,hdr.out,show okT s[k] = true from by simp only [okT,h3];simp;omega];rfl
      have H3:Hid (([34,39,60,62,38,61]:List UInt8).contains s[k] = false):=h3
      clear hdr HK h3
      go_wp2_with (go_at_call 93;refine (ix_any ⟨#[34,39,60,62,38,61]⟩ [34,39,60,62,38,61] rfl s[k] _ rfl _).mono ?_;rintro e w' ⟨i,rfl,hi9,hw'⟩;rw [H3.out] at hi9;have hw'':=hw'.symm;subst hw'')
      go_round
      case rel=>exact ⟨k + 1,by omega,by go_num,HN⟩
      case measure=>simp [intOf];omega
     ·have HN:Hid (plainT s.data.toList = false):=by
       unfold Hid
       rw [← HK.out,hdr.out,show okT s[k] = false from by simp only [okT,h3];simp];rfl
      have H3:Hid (([34,39,60,62,38,61]:List UInt8).contains s[k] = true):=h3
      clear hdr HK h3
      go_wp2_with (go_at_call 93;refine (ix_any ⟨#[34,39,60,62,38,61]⟩ [34,39,60,62,38,61] rfl s[k] _ rfl _).mono ?_;rintro e w' ⟨i,rfl,hi9,hw'⟩;rw [H3.out] at hi9;have hw'':=hw'.symm;subst hw'')
      go_ret
      exact ⟨by rw [HN.out];rfl,rfl⟩
  ·obtain rfl:k = s.size:=by omega
   have HN:Hid (plainT s.data.toList = true):=by
    unfold Hid
    rw [← HK.out,List.drop_of_length_le (by rw [← Lib.size_eq];exact Nat.le_refl _)];rfl
   clear HK
   go_wp2
   go_ret
   exact ⟨by rw [HN.out];rfl,rfl⟩
def TxRow (w:World) (p:Option Addr) (ts:List ByteArray):Prop:=ts ≠ []→∃ b o,p = some ⟨b,o,none⟩∧∀ i,i < ts.length→w.cell? ⟨b,o + i,none⟩ = some (.string (ts.getD i ⟨#[]⟩))
theorem TxRow.below {w w':World} {p:Option Addr} {ts:List ByteArray} (h:TxRow w p ts) (hb:Below w.heap.size w w'):TxRow w' p ts:=by
 intro hne
 obtain ⟨b,o,rfl,hc⟩:=h hne
 refine ⟨b,o,rfl,fun i hi=>?_⟩
 have:=hc i hi
 rw [hb.cell (p:=⟨b,o + i,none⟩) (World.block_lt_of_cell? w _ this)]
 exact this
def tls (ts:List ByteArray):List (List UInt8):=ts.map fun t=>t.data.toList
end Go.Proofs.YtbbfcbodhmeanaaGreatDoor



namespace Go.Proofs.YtbbfcbodhmeanaaGreatDoor
theorem val_pos (s:List UInt8) (h:(valP s).2.2 ≠ []):1≤(valP s).1.length:=by
 have h0:0 < (valP s).2.2.length:=List.length_pos_iff.2 h
 have h1:(valP s).2.2.length≤(valP s).1.length:=by
  cases s with
  | nil=>exact Nat.le_refl _
  | cons c t =>
   simp only [valP]
   split
   ·have:=drop_dropWhile (notQ c) t;simp only [List.length_drop];omega
   ·exact drop_dropWhile inBare (c::t)
 omega
theorem attr_pos (s:List UInt8) (x:LK) (h:(attrP s).1 = some x) (hr:(attrP s).2 ≠ []):1≤x.1:=by
 unfold attrP at h hr
 cases hd:(((s.drop 1).dropWhile inAttr).dropWhile spB) with
 | nil=>rw [hd] at h;cases h
 | cons c t =>
  rw [hd] at h hr
  simp only [behP] at h hr
  split at h
  ·rename_i h61
   rw [if_pos h61] at hr
   cases h
   exact val_pos _ hr
  ·cases h
theorem tag_left (low:List UInt8→List UInt8):∀ (n:Nat) (seen:List (List UInt8)) (s:List UInt8) (l:List LK),(tagF low n seen s).1 = some l→∀ x ∈ l,1≤x.1
 | 0,_,_,_,h=>by cases h
 | n + 1,seen,s,l,h=>by
  unfold tagF at h
  cases hd:s.dropWhile inGap with
  | nil=>rw [hd] at h;cases h
  | cons c t =>
   rw [hd] at h
   simp only at h
   split at h
   ·cases h;intro x hx;cases hx
   ·simp only [Option.map_eq_some_iff] at h
    obtain ⟨l1,h1,rfl⟩:=h
    have hr:(attrP (c::t)).2 ≠ []:=fun e=>by rw [e,tagF_nil] at h1;cases h1
    intro x hx
    rcases List.mem_append.1 hx with hx | hx
    ·unfold mineP at hx
     split at hx
     ·cases hx
     ·rename_i y hy
      split at hx
      ·simp at hx
       subst hx
       exact attr_pos _ _ hy hr
      ·cases hx
    ·exact tag_left low n _ _ l1 h1 x hx
theorem piece_left (low:List UInt8→List UInt8) (s:List UInt8):∀ x ∈ (pieceP low s).1,1≤x.1:=by
 unfold pieceP
 split
 ·intro x hx;cases hx
 ·split
  ·intro x hx;cases hx
  ·split
   ·simp only [tagP]
    cases h:(tagF low ((List.dropWhile inName (List.drop 1 s)).length + 1) [] (List.dropWhile inName (List.drop 1 s))).1 with
    | none=>intro x hx;cases hx
    | some l=>exact tag_left low _ _ _ l h
   ·split <;> (intro x hx;cases hx)
theorem find_left (low:List UInt8→List UInt8):∀ (n:Nat) (acc:List LK) (s:List UInt8) (L:List LK),findF low n acc s = some L→(∀ x ∈ acc,1≤x.1)→∀ x ∈ L,1≤x.1
 | 0,acc,s,L,h,ha=>by simp only [findF,Option.some.injEq] at h;rw [← h];exact ha
 | n + 1,acc,s,L,h,ha=>by
  rw [findF] at h
  split at h
  ·simp only [Option.some.injEq] at h;rw [← h];exact ha
  ·split at h
   ·cases h
   ·refine find_left low n _ _ L h (fun x hx=>?_)
    rcases List.mem_append.1 hx with hx | hx
    ·exact ha x hx
    ·exact piece_left low s x hx
theorem findP_left (low:List UInt8→List UInt8) (b:List UInt8) (l:List LK) (h:findP low b = some l):∀ x ∈ l,1≤x.1:=by
 unfold findP at h
 split at h
 ·cases h
 ·exact find_left low _ _ _ l h (fun x hx=>by cases hx)
end Go.Proofs.YtbbfcbodhmeanaaGreatDoor



namespace Go.Proofs.YtbbfcbodhmeanaaGreatDoor
open Go.RowKit
theorem append_bytes {w:World} {ops:Array Oper} {rest:List Oper} {o:Oper} {a:Act} {Q:Exit→Act→World→Prop} (hgd:o.guard = none) (s x:Operand)
  (ho:o.op = .call { callee:=.builtin .append,args:=#[s,x],argTypes:=#[22,22] })
  (base:Nat) (v:Value) (O:List UInt8) (hs:a.eval s = v) (hown:w.ownsRow base 5 1 v O.length (bv O))
  (q:Option Addr) (m c:Nat) (l:List UInt8) (em:m = l.length) (hx:a.eval x = .slice q m c) (hr:BRow w q l) (hq:q = none→m = 0∧c = 0)
  (h63:O.length + m≤100000000) (hbase:base≤w.heap.size)
  (h:∀ v' w' OP,Hid (OP = O ++ l)→w'.ownsRow base 5 1 v' OP.length (bv OP)→w.grownBy w' v.ownBlock→wpList Tryz.prog ops Q rest (a.put o.dst v') w'):wpList Tryz.prog ops Q (o::rest) a w:=by
 obtain ⟨i0,hi,hz0,hz1,hz2⟩:=info_parts info_u8
 subst em
 cases q with
 | none =>
  obtain ⟨h0,rfl⟩:=hq rfl
  have hl:l = []:=List.length_eq_zero_iff.1 h0
  subst hl
  refine wpList_append_own_none hgd s x 22 ho base 5 i0 1 Tryz.underlying22 hi v O.length (bv O) hs hown hx ?_
  refine h v w O (by unfold Hid;simp) hown (World.grownBy.refl _ _)
 | some ad =>
  refine wpList_append_own _ hgd s x 22 ho base 5 i0 (.int .u8 0) 1 1 Tryz.underlying22 hi hz0 hz1 hz2 rfl (by decide) v O.length (bv O) hs hown ad l.length c (bv l) hx (by rw [bv_length];omega) ?_ ?_ (by unfold maxLen;omega) (by omega) hbase (fun v' w' h1 h2 _=>h v' w' (O ++ l) rfl (by rw [bv_append,List.length_append];exact h1) h2)
  ·intro j u hj
   have hjl:j < l.length:=by
    have:=(List.getElem?_eq_some_iff.1 hj).1
    rwa [bv_length] at this
   obtain ⟨b,o',e,hc⟩:=hr (fun e=>by rw [e] at hjl;simp at hjl)
   obtain rfl:=Option.some.inj e
   rw [Addr.add_lit,hc j hjl]
   simp only [bv,List.getElem?_map,List.getElem?_eq_getElem hjl,Option.map_some,Option.some.injEq] at hj
   rw [← hj]
   simp [List.getD_eq_getElem?_getD,List.getElem?_eq_getElem hjl]
  ·intro u hu
   simp only [bv,List.mem_map] at hu
   obtain ⟨c,_,rfl⟩:=hu
   rfl
theorem BRow.part {w:World} {q:Option Addr} {l:List UInt8} (h:BRow w q l) (bq oq:Nat) (hq:q = some ⟨bq,oq,none⟩) (d m:Nat):BRow w (some ⟨bq,oq + d,none⟩) ((l.drop d).take m):=by
 intro hne
 refine ⟨bq,oq + d,rfl,fun i hi=>?_⟩
 have hlen:i < m∧d + i < l.length:=by
  rw [List.length_take,List.length_drop] at hi
  omega
 obtain ⟨b,o,e,hc⟩:=h (fun e=>by rw [e] at hlen;simp at hlen)
 rw [hq] at e
 obtain ⟨rfl,rfl⟩:bq = b∧oq = o:=by injection e with e;injection e with h1 h2;exact ⟨h1,h2⟩
 have:=hc (d + i) hlen.2
 rw [Nat.add_assoc,this]
 congr 3
 rw [List.getD_eq_getElem?_getD,List.getD_eq_getElem?_getD,List.getElem?_take_of_lt hlen.1,List.getElem?_drop]
theorem lstrCells (s:ByteArray):Lib.strCells s = bv s.data.toList:=by simp [bv,Lib.strCells]
def FillPost (w:World) (out:List UInt8) (e:Ending) (w':World):Prop:=Below w.heap.size w w' ∧
 ((4000 < out.length∧e = .returned (.tuple #[.slice none 0 0,.int .i64 2])) ∨ (out.length≤4000∧∃ v,e = .returned (.tuple #[v,.int .i64 0])∧w'.ownsRow w.heap.size 5 1 v out.length (bv out)))
structure FillSt (w:World) (N:Nat) (b:List UInt8) (l:List LK) (ts:List (List UInt8)) (gk:Nat) (wr:World) (v:Value) (i d:Nat) (O:List UInt8):Prop where
 few:l.length < i + gk
 il:i≤l.length
 dn:d≤N
 dc:i < l.length→d < N
 ol:O.length≤4000
 ord:Ord N d (l.drop i)
 bel:Below w.heap.size w wr
 own:wr.ownsRow w.heap.size 5 1 v O.length (bv O)
 eq:fillP l ts b = O ++ fillP (l.drop i) (ts.drop i) (b.drop d)
theorem drop_at {α:Type} (l:List α) (i:Nat) (d:α) (h:i < l.length):l.drop i = l.getD i d::l.drop (i + 1):=by
 rw [List.drop_eq_getElem_cons h]
 simp [List.getD_eq_getElem?_getD,List.getElem?_eq_getElem h]
end Go.Proofs.YtbbfcbodhmeanaaGreatDoor



namespace Go.Proofs.YtbbfcbodhmeanaaGreatDoor
theorem index_sep_none (d:UInt8) (s a:List UInt8) (h:∀ c ∈ a,c ≠ d):Lib.index a (d::s) = -1:=by
 induction a with
 | nil=>rfl
 | cons c a ih =>
  have hc:(d == c) = false:=by simp;exact fun e=>h c (by simp) e.symm
  have:=ih (fun e he=>h e (by simp [he]))
  simp [Lib.index,List.isPrefixOf,hc,this]
theorem prefix_self (s r:List UInt8):s.isPrefixOf (s ++ r) = true:=by
 rw [List.isPrefixOf_iff_prefix];exact List.prefix_append s r
theorem index_sep (d:UInt8) (s a r:List UInt8) (h:∀ c ∈ a,c ≠ d):Lib.index (a ++ ((d::s) ++ r)) (d::s) = (a.length:Int):=by
 induction a with
 | nil =>
  have:=prefix_self (d::s) r
  rw [List.cons_append] at this
  rw [List.nil_append,List.cons_append,Lib.index,if_pos this]
  rfl
 | cons c a ih =>
  have hc:(d == c) = false:=by simp;exact fun e=>h c (by simp) e.symm
  have hi:=ih (fun e he=>h e (by simp [he]))
  rw [List.cons_append,Lib.index]
  have hp:(d::s).isPrefixOf (c::(a ++ ((d::s) ++ r))) = false:=by simp [List.isPrefixOf,hc]
  rw [hp,hi]
  simp only [Bool.false_eq_true,if_false]
  rw [if_neg (by simp)]
  simp
theorem drop_sep (s a r:List UInt8):(a ++ (s ++ r)).drop (a.length + s.length) = r:=by
 rw [show a.length + s.length = (a ++ s).length from by simp,← List.append_assoc,List.drop_left]
theorem count_sep (d:UInt8) (s a r:List UInt8) (h:∀ c ∈ a,c ≠ d):Lib.count (a ++ ((d::s) ++ r)) (d::s) = Lib.count r (d::s) + 1:=by
 rw [Lib.count_hit (by simp) (index_sep d s a r h),drop_sep,Nat.add_comm]
def joinG (s:List UInt8):List UInt8→List (List UInt8)→List UInt8
 | a,[]=>a
 | a,b::t=>a ++ (s ++ joinG s b t)
theorem split_join (d:UInt8) (s:List UInt8):∀ (t:List (List UInt8)) (a:List UInt8),(∀ x ∈ a::t,∀ c ∈ x,c ≠ d) →
  Lib.splitK (d::s) 0 (Lib.count (joinG (d::s) a t) (d::s)) (joinG (d::s) a t) = a::t:=by
 intro t
 induction t with
 | nil=>intro a h;rw [joinG,Lib.count_miss (index_sep_none d s a (h a (by simp)))];rfl
 | cons b t ih =>
  intro a h
  have ha:=h a (by simp)
  rw [joinG,count_sep d s a _ ha,Lib.splitK,index_sep d s a _ ha,if_neg (by simp),Int.toNat_natCast,drop_sep,ih b (fun x hx=>h x (by simp at hx ⊢;right;exact hx)),Nat.add_zero,List.take_left]
end Go.Proofs.YtbbfcbodhmeanaaGreatDoor



namespace Go.Proofs.YtbbfcbodhmeanaaGreatDoor
structure UL where
 sch:List UInt8
 hh:Bool
 hst:List UInt8
 pth:List UInt8
 hq:Bool
 qry:List UInt8
 hf:Bool
 frg:List UInt8
def noUL:UL:=⟨[],false,[],[],false,[],false,[]⟩
theorem UL.ext' {a b:UL} (h1:a.sch = b.sch) (h2:a.hh = b.hh) (h3:a.hst = b.hst) (h4:a.pth = b.pth) (h5:a.hq = b.hq) (h6:a.qry = b.qry) (h7:a.hf = b.hf) (h8:a.frg = b.frg):a = b:=by
 cases a;cases b;simp at *;exact ⟨h1,h2,h3,h4,h5,h6,h7,h8⟩
def foreignL:List UInt8:=[34,60,62,92,94,96,123,124,125]
def hostN:List UInt8:=foreignL ++ [47,63,35]
def pathN:List UInt8:=foreignL ++ [63,35]
def fragN:List UInt8:=foreignL ++ [35]
def isUpB (c:UInt8):Bool:=decide (65≤c.toNat) && decide (c.toNat≤90)
def isLowB (c:UInt8):Bool:=decide (97≤c.toNat) && decide (c.toNat≤122)
def schB (c:UInt8):Bool:=isLowB c || (decide (48≤c.toNat) && decide (c.toNat≤57)) || decide (c = 43) || decide (c = 45) || decide (c = 46)
def lowU (c:UInt8):UInt8:=if isUpB c = true then c + 32 else c
def smallU (l:List UInt8):List UInt8:=l.map lowU
def schemeS (l:List UInt8):Bool:=(match l with | []=>false | c::_=>isLowB c) && l.all schB
def cutC:List UInt8→Option (List UInt8 × List UInt8)
 | []=>none
 | c::r=>if c = 58 then some ([],r) else if c = 47 then none else (cutC r).map fun x=>(c::x.1,x.2)
def preS (l:List UInt8):Bool:=l.head? == some 47
def preSS:List UInt8→Bool
 | a::b::_=>(a == 47) && (b == 47)
 | _=>false
def wrtU (u:UL):Bool :=
 (u.sch.isEmpty || schemeS u.sch) && betw 33 126 hostN u.hst && betw 33 126 pathN u.pth && betw 33 126 fragN u.qry && betw 33 126 fragN u.frg && u.hst.all fun c=>!isUpB c
def likeU (u:UL):Bool:=!u.hh && preSS u.pth
def frmU (u:UL):Bool :=
 if (!u.hh && !u.hst.isEmpty) || (!u.hq && !u.qry.isEmpty) || (!u.hf && !u.frg.isEmpty) then false
 else if u.hh then u.pth.isEmpty || preS u.pth
 else if likeU u then false else !u.sch.isEmpty || (cutC u.pth).isNone
def opt (b:Bool) (l:List UInt8):List UInt8:=if b then l else []
def textU (u:UL):List UInt8:=opt (!u.sch.isEmpty) (u.sch ++ [58]) ++ (opt u.hh ([47,47] ++ u.hst) ++ (u.pth ++ (opt u.hq (63::u.qry) ++ opt u.hf (35::u.frg))))
def longU (u:UL):Bool:=decide (120 < u.sch.length) || decide (120 < u.hst.length) || decide (120 < u.pth.length) || decide (120 < u.qry.length) || decide (120 < u.frg.length)
def checkU (u:UL):Nat:=if longU u then 2 else if wrtU u = false then 1 else if frmU u = false then 4 else if 120 < (textU u).length then 2 else 0
def cutO (d:UInt8) (l:List UInt8):List UInt8 × List UInt8 × Bool:=match cutB d l with | none=>(l,[],false) | some x=>(x.1,x.2,true)
def cutH (l:List UInt8):List UInt8 × List UInt8:=match cutB 47 l with | none=>(l,[]) | some x=>(x.1,47::x.2)
def hostU (sch l:List UInt8) (hq:Bool) (q:List UInt8) (hf:Bool) (f:List UInt8):UL :=
 if preSS l then ⟨sch,true,smallU (cutH (l.drop 2)).1,(cutH (l.drop 2)).2,hq,q,hf,f⟩ else ⟨sch,false,[],l,hq,q,hf,f⟩
def checkedU (u:UL):UL × Nat:=if checkU u = 0 then (u,0) else (noUL,checkU u)
def parseA (l:List UInt8) (hq:Bool) (q:List UInt8) (hf:Bool) (f:List UInt8):UL × Nat :=
 match cutC l with
 | none=>checkedU (hostU [] l hq q hf f)
 | some x=>if schemeS (smallU x.1) = false then (noUL,1) else checkedU (hostU (smallU x.1) x.2 hq q hf f)
def parseU (s:List UInt8):UL × Nat :=
 if 120 < s.length then (noUL,2)
 else parseA (cutO 63 (cutO 35 s).1).1 (cutO 63 (cutO 35 s).1).2.2 (cutO 63 (cutO 35 s).1).2.1 (cutO 35 s).2.2 (cutO 35 s).2.1
def printU (u:UL):List UInt8 × Nat:=if checkU u = 0 then (textU u,0) else ([],checkU u)
def splitP:List UInt8→List UInt8 × List (List UInt8)
 | []=>([],[])
 | c::r=>if c = 47 then ([],(splitP r).1::(splitP r).2) else (c::(splitP r).1,(splitP r).2)
def partsP (l:List UInt8):List (List UInt8):=(splitP l).1::(splitP l).2
def joinP:List (List UInt8)→List UInt8
 | []=>[]
 | a::t=>joinG [47] a t
def isDot (s:List UInt8):Bool:=(s == [46]) || (s == [46,46])
def backP (s:List UInt8) (left:List (List UInt8)):List (List UInt8):=if (s == [46,46]) && decide (1 < left.length) then left.dropLast else left
def dotsGo:List (List UInt8)→List (List UInt8)→List (List UInt8)
 | [],left=>left
 | s::r,left=>if isDot s then dotsGo r (if r.isEmpty then backP s left ++ [[]] else backP s left) else dotsGo r (left ++ [s])
def undotU (p:List UInt8):List UInt8:=joinP (dotsGo (partsP p) [])
def dirP (l:List UInt8):List UInt8:=(l.reverse.dropWhile (fun c=>!(c == 47))).reverse
def compU (b u:UL):UL :=
 if u.hh then { u with sch:=b.sch }
 else if u.pth.isEmpty then (if u.hq then { u with sch:=b.sch,hh:=b.hh,hst:=b.hst,pth:=b.pth } else { u with sch:=b.sch,hh:=b.hh,hst:=b.hst,pth:=b.pth,hq:=b.hq,qry:=b.qry })
 else if preS u.pth then { u with sch:=b.sch,hh:=b.hh,hst:=b.hst }
 else if b.hh && b.pth.isEmpty then { u with sch:=b.sch,hh:=b.hh,hst:=b.hst,pth:=47::u.pth }
 else { u with sch:=b.sch,hh:=b.hh,hst:=b.hst,pth:=dirP b.pth ++ u.pth }
def undU (u:UL):UL:=if u.hh || preS u.pth then { u with pth:=undotU u.pth } else u
def fullU (b u:UL):UL:=if u.sch.isEmpty then compU b u else u
def endU (u:UL):UL × Nat:=if likeU u then (noUL,4) else checkedU u
def leadU (b u:UL):UL × Nat :=
 if checkU b ≠ 0 then (noUL,checkU b) else if checkU u ≠ 0 then (noUL,checkU u) else if b.sch.isEmpty then (noUL,4) else endU (undU (fullU b u))
theorem splitP_free:∀ l:List UInt8,∀ x ∈ partsP l,∀ c ∈ x,c ≠ 47
 | []=>by simp [partsP,splitP]
 | c::r=>by
  have ih:=splitP_free r
  intro x hx
  unfold partsP splitP at hx
  split at hx
  ·simp only [List.mem_cons] at hx
   rcases hx with rfl | hx
   ·simp
   ·exact ih x (by simp [partsP];exact hx)
  ·rename_i hc
   simp only [List.mem_cons] at hx
   rcases hx with rfl | hx
   ·intro d hd
    rcases List.mem_cons.1 hd with rfl | hd
    ·exact hc
    ·exact ih _ (by simp [partsP]) d hd
   ·exact ih x (by simp [partsP];exact .inr hx)
theorem joinG_cons (s:List UInt8) (c:UInt8) (a:List UInt8) (t:List (List UInt8)):joinG s (c::a) t = c::joinG s a t:=by cases t <;> simp [joinG]
theorem join_split:∀ l:List UInt8,joinG [47] (splitP l).1 (splitP l).2 = l
 | []=>rfl
 | c::r=>by
  have ih:=join_split r
  unfold splitP
  split
  ·rename_i hc;subst hc;simp only [joinG];rw [ih];rfl
  ·simp only;rw [joinG_cons,ih]
theorem joinP_parts (l:List UInt8):joinP (partsP l) = l:=join_split l
theorem split_parts (l:List UInt8):Lib.splitK [47] 0 (Lib.count l [47]) l = partsP l:=by
 have h:=split_join 47 [] (splitP l).2 (splitP l).1 (splitP_free l)
 rw [join_split] at h
 exact h
end Go.Proofs.YtbbfcbodhmeanaaGreatDoor



namespace Go.Proofs.YtbbfcbodhmeanaaGreatDoor
def ledU (a b:List UInt8):List UInt8 :=
 if (parseU a).2 ≠ 0 then [] else if (parseU b).2 ≠ 0 then [] else if (leadU (parseU a).1 (parseU b).1).2 ≠ 0 then [] else (printU (leadU (parseU a).1 (parseU b).1).1).1
def nowS:List UInt8:=[116,104,105,115,109,101,115,115,97,103,101,58,47]
def htmlS:List UInt8:=[116,101,120,116,47,104,116,109,108]
def cidS:List UInt8:=[99,105,100,58]
def fromW (wh:List (List UInt8)) (i:Int):List UInt8:=if i < 0 then nowS else if wh.getD i.toNat [] = [] then nowS else wh.getD i.toNat []
def stepW (wh:List (List UInt8)) (x:PT × Int):List UInt8:=if x.1.loc.data.toList = [] then fromW wh x.2 else ledU (fromW wh x.2) x.1.loc.data.toList
def whereP (l:List (PT × Int)):List (List UInt8):=l.foldl (fun wh x=>wh ++ [stepW wh x]) []
def noFr (s:List UInt8):List UInt8:=match cutB 35 s with | none=>s | some x=>x.1
def firstP (ok:Nat→PT→Bool):Nat→List PT→Int
 | _,[]=>-1
 | k,p::l=>if manyS p.ty.data.toList = false∧ok k p = true then (k:Int) else firstP ok (k + 1) l
def okID (t:List UInt8) (_:Nat) (p:PT):Bool:=!p.id.data.toList.isEmpty && (p.id.data.toList == t)
def okLoc (wh:List (List UInt8)) (t:List UInt8) (k:Nat) (p:PT):Bool:=!p.loc.data.toList.isEmpty && (noFr (wh.getD k []) == t)
def findW (l:List PT) (wh:List (List UInt8)) (tw:List UInt8):Int :=
 if tw = [] then -1 else if Lib.hasPrefix (noFr tw) cidS = true then firstP (okID ((noFr tw).drop 4)) 0 l else firstP (okLoc wh (noFr tw)) 0 l
structure GL where
 part:Int
 fr:Int
 tt:Int
 text:List UInt8
 led:List UInt8
 find:Int
def goalOf (l:List PT) (wh:List (List UInt8)) (i n:Nat) (x:LK):GL :=
 ⟨i,((n - x.1:Nat):Int),((n - x.1 + x.2.length:Nat):Int),unamp x.2,ledU (fromW wh i) (unamp x.2),findW l wh (ledU (fromW wh i) (unamp x.2))⟩
def goalsGo (low:List UInt8→List UInt8) (l:List PT) (wh:List (List UInt8)):Nat→List PT→List GL→Option (List GL)
 | _,[],acc=>some acc
 | k,p::r,acc=>if p.ty.data.toList = htmlS then (match findP low p.body with | none=>none | some ls=>goalsGo low l wh (k + 1) r (acc ++ ls.map (goalOf l wh k p.body.length))) else goalsGo low l wh (k + 1) r acc
theorem whereP_snoc (l:List (PT × Int)) (x:PT × Int):whereP (l ++ [x]) = whereP l ++ [stepW (whereP l) x]:=by simp [whereP]
theorem whereP_length (l:List (PT × Int)):(whereP l).length = l.length:=by
 have:∀ (l:List (PT × Int)) (acc:List (List UInt8)),(l.foldl (fun wh x=>wh ++ [stepW wh x]) acc).length = acc.length + l.length:=by
  intro l
  induction l with
  | nil=>intro acc;simp
  | cons x l ih=>intro acc;rw [List.foldl_cons,ih];simp;omega
 have h:=this l []
 simpa [whereP] using h
theorem printU_len (u:UL):(printU u).1.length≤120:=by
 unfold printU
 split
 ·rename_i h
  unfold checkU at h
  split at h
  ·cases h
  ·split at h
   ·cases h
   ·split at h
    ·cases h
    ·split at h
     ·cases h
     ·simp only;omega
 ·simp
theorem ledU_len (a b:List UInt8):(ledU a b).length≤120:=by
 unfold ledU
 split
 ·simp
 ·split
  ·simp
  ·split
   ·simp
   ·exact printU_len _
theorem nowS_len:nowS.length = 13:=rfl
theorem fromW_len (wh:List (List UInt8)) (h:∀ x ∈ wh,x.length≤120) (i:Int):(fromW wh i).length≤120:=by
 unfold fromW
 split
 ·rw [nowS_len];omega
 ·split
  ·rw [nowS_len];omega
  ·rw [List.getD_eq_getElem?_getD]
   cases hx:wh[i.toNat]? with
   | none=>simp
   | some y=>simpa using h y (List.mem_of_getElem? hx)
theorem stepW_len (wh:List (List UInt8)) (h:∀ x ∈ wh,x.length≤120) (x:PT × Int):(stepW wh x).length≤120:=by
 unfold stepW
 split
 ·exact fromW_len wh h _
 ·exact ledU_len _ _
theorem whereP_each (l:List (PT × Int)):∀ x ∈ whereP l,x.length≤120:=by
 have:∀ (l:List (PT × Int)) (acc:List (List UInt8)),(∀ x ∈ acc,x.length≤120)→∀ x ∈ l.foldl (fun wh x=>wh ++ [stepW wh x]) acc,x.length≤120:=by
  intro l
  induction l with
  | nil=>intro acc h;exact h
  | cons y l ih =>
   intro acc h
   rw [List.foldl_cons]
   refine ih _ (fun x hx=>?_)
   rcases List.mem_append.1 hx with hx | hx
   ·exact h x hx
   ·simp at hx;rw [hx];exact stepW_len acc h y
 exact this l [] (by simp)
end Go.Proofs.YtbbfcbodhmeanaaGreatDoor

