
import Derived.Test.YtbbfcbodhmeanaaGreatDoorXrewritesays6
namespace Go.Proofs.YtbbfcbodhmeanaaGreatDoor
open Go.RowKit
theorem ne_u8 {c:UInt8} {n:Nat} (hn:n < 256) (h:¬ c = UInt8.ofNat n):¬ (c.toNat:Int) = (n:Int):=fun e=>h (UInt8.toNat_inj.1 (by rw [UInt8.toNat_ofNat_of_lt' hn];omega))
set_option maxHeartbeats 1000000 in
theorem space_any (c:UInt8) (cc:Int) (e:cc = (c.toNat:Int)) (w:World) :
  Calls Tryz.prog 172 #[.int .u8 cc] w fun e w'=>e = .returned (.bool (spB c))∧w' = w:=by
 subst e
 go_enter Tryz.func172,Tryz.ntmps172
 go_wp2_with (go_at_call 93;refine (ix_any ⟨#[32,9,13,10,12]⟩ [32,9,13,10,12] rfl c _ rfl _).mono ?_;rintro e w' ⟨i,rfl,hi8,hw'⟩;have hi9:Hid (decide (0≤i) = spB c):=hi8;clear hi8;have hw'':=hw'.symm;subst hw'')
 go_ret
 exact ⟨ret_bool hi9.out,rfl⟩
set_option maxHeartbeats 1000000 in
theorem letter_any (c:UInt8) (cc:Int) (e:cc = (c.toNat:Int)) (w:World) :
  Calls Tryz.prog 169 #[.int .u8 cc] w fun e w'=>e = .returned (.bool (letB c))∧w' = w:=by
 subst e
 obtain ⟨n,hn⟩:∃ n,n = c.toNat:=⟨_,rfl⟩
 have HL:Hid (letB c = ((decide (97≤n) && decide (n≤122)) || (decide (65≤n) && decide (n≤90)))):=by unfold Hid;rw [hn];rfl
 rw [← hn]
 clear hn
 by_cases h1:97≤n
 ·have h1':(97:Int)≤(n:Int):=by omega
  by_cases h2:n≤122
  ·have h2':(n:Int)≤122:=by omega
   go_enter Tryz.func169,Tryz.ntmps169
   go_wp2
   go_ret
   exact ⟨ret_bool (by rw [HL.out];simp [h1,h2]),rfl⟩
  ·have h2':¬ (n:Int)≤122:=by omega
   have h3':(65:Int)≤(n:Int):=by omega
   have h4':¬ (n:Int)≤90:=by omega
   go_enter Tryz.func169,Tryz.ntmps169
   go_wp2
   go_ret
   exact ⟨ret_bool (by rw [HL.out];simp;omega),rfl⟩
 ·have h1':¬ (97:Int)≤(n:Int):=by omega
  by_cases h3:65≤n
  ·have h3':(65:Int)≤(n:Int):=by omega
   by_cases h4:n≤90
   ·have h4':(n:Int)≤90:=by omega
    go_enter Tryz.func169,Tryz.ntmps169
    go_wp2
    go_ret
    exact ⟨ret_bool (by rw [HL.out];simp;omega),rfl⟩
   ·have h4':¬ (n:Int)≤90:=by omega
    go_enter Tryz.func169,Tryz.ntmps169
    go_wp2
    go_ret
    exact ⟨ret_bool (by rw [HL.out];simp;omega),rfl⟩
  ·have h3':¬ (65:Int)≤(n:Int):=by omega
   go_enter Tryz.func169,Tryz.ntmps169
   go_wp2
   go_ret
   exact ⟨ret_bool (by rw [HL.out];simp;omega),rfl⟩
set_option maxHeartbeats 2000000 in
theorem tag1_any (c:UInt8) (w:World):Calls Tryz.prog 171 #[.int .u8 (c.toNat:Int)] w fun e w'=>e = .returned (.bool (inName c))∧w' = w:=by
 have HS:Hid (∀ W,Calls Tryz.prog 172 #[.int .u8 (c.toNat:Int)] W fun e w'=>e = .returned (.bool (spB c))∧w' = W):=fun W=>space_any c _ rfl W
 by_cases h47:c = 47
 ·subst h47
  have hsp:spB 47 = false:=rfl
  rw [hsp] at HS
  go_enter Tryz.func171,Tryz.ntmps171
  go_wp2_with (go_at_call 172;refine (HS.out _).mono ?_;rintro e w' ⟨rfl,hw'⟩;have hw'':=hw'.symm;subst hw'')
  go_ret
  exact ⟨ret_bool (by decide),rfl⟩
 by_cases h62:c = 62
 ·subst h62
  have hsp:spB 62 = false:=rfl
  rw [hsp] at HS
  go_enter Tryz.func171,Tryz.ntmps171
  go_wp2_with (go_at_call 172;refine (HS.out _).mono ?_;rintro e w' ⟨rfl,hw'⟩;have hw'':=hw'.symm;subst hw'')
  go_ret
  exact ⟨ret_bool (by decide),rfl⟩
 have n47:¬ (c.toNat:Int) = 47:=ne_u8 (n:=47) (by decide) h47
 have n62:¬ (c.toNat:Int) = 62:=ne_u8 (n:=62) (by decide) h62
 have HT:Hid (spB c = true→inName c = false):=fun h=>by simp [inName,h]
 have HF:Hid (spB c = false→inName c = true):=fun h=>by simp [inName,h,h47,h62]
 clear h47 h62
 cases hs:spB c with
 | true =>
  rw [hs] at HS
  have HP:Hid (_ = _):=HT.out hs
  clear HT HF hs
  go_enter Tryz.func171,Tryz.ntmps171
  go_wp2_with (go_at_call 172;refine (HS.out _).mono ?_;rintro e w' ⟨rfl,hw'⟩;have hw'':=hw'.symm;subst hw'')
  go_ret
  exact ⟨ret_bool (by rw [HP.out]),rfl⟩
 | false =>
  rw [hs] at HS
  have HP:Hid (_ = _):=HF.out hs
  clear HT HF hs
  go_enter Tryz.func171,Tryz.ntmps171
  go_wp2_with (go_at_call 172;refine (HS.out _).mono ?_;rintro e w' ⟨rfl,hw'⟩;have hw'':=hw'.symm;subst hw'')
  go_ret
  exact ⟨ret_bool (by rw [HP.out];simp [n47,n62]),rfl⟩
set_option maxHeartbeats 2000000 in
theorem tag2_any (c:UInt8) (w:World):Calls Tryz.prog 173 #[.int .u8 (c.toNat:Int)] w fun e w'=>e = .returned (.bool (inGap c))∧w' = w:=by
 have HS:Hid (∀ W,Calls Tryz.prog 172 #[.int .u8 (c.toNat:Int)] W fun e w'=>e = .returned (.bool (spB c))∧w' = W):=fun W=>space_any c _ rfl W
 by_cases h47:c = 47
 ·subst h47
  have hsp:spB 47 = false:=rfl
  rw [hsp] at HS
  go_enter Tryz.func173,Tryz.ntmps173
  go_wp2_with (go_at_call 172;refine (HS.out _).mono ?_;rintro e w' ⟨rfl,hw'⟩;have hw'':=hw'.symm;subst hw'')
  go_ret
  exact ⟨ret_bool (by decide),rfl⟩
 have n47:¬ (c.toNat:Int) = 47:=ne_u8 (n:=47) (by decide) h47
 have HT:Hid (spB c = true→inGap c = true):=fun h=>by simp [inGap,h]
 have HF:Hid (spB c = false→inGap c = false):=fun h=>by simp [inGap,h,h47]
 clear h47
 cases hs:spB c with
 | true =>
  rw [hs] at HS
  have HP:Hid (_ = _):=HT.out hs
  clear HT HF hs
  go_enter Tryz.func173,Tryz.ntmps173
  go_wp2_with (go_at_call 172;refine (HS.out _).mono ?_;rintro e w' ⟨rfl,hw'⟩;have hw'':=hw'.symm;subst hw'')
  go_ret
  exact ⟨ret_bool (by rw [HP.out]),rfl⟩
 | false =>
  rw [hs] at HS
  have HP:Hid (_ = _):=HF.out hs
  clear HT HF hs
  go_enter Tryz.func173,Tryz.ntmps173
  go_wp2_with (go_at_call 172;refine (HS.out _).mono ?_;rintro e w' ⟨rfl,hw'⟩;have hw'':=hw'.symm;subst hw'')
  go_ret
  exact ⟨ret_bool (by rw [HP.out];simp [n47]),rfl⟩
set_option maxHeartbeats 2000000 in
theorem attr1_any (c:UInt8) (w:World):Calls Tryz.prog 201 #[.int .u8 (c.toNat:Int)] w fun e w'=>e = .returned (.bool (inAttr c))∧w' = w:=by
 have HS:Hid (∀ W,Calls Tryz.prog 172 #[.int .u8 (c.toNat:Int)] W fun e w'=>e = .returned (.bool (spB c))∧w' = W):=fun W=>space_any c _ rfl W
 by_cases h47:c = 47
 ·subst h47
  have hsp:spB 47 = false:=rfl
  rw [hsp] at HS
  go_enter Tryz.func201,Tryz.ntmps201
  go_wp2_with (go_at_call 172;refine (HS.out _).mono ?_;rintro e w' ⟨rfl,hw'⟩;have hw'':=hw'.symm;subst hw'')
  go_ret
  exact ⟨ret_bool (by decide),rfl⟩
 by_cases h62:c = 62
 ·subst h62
  have hsp:spB 62 = false:=rfl
  rw [hsp] at HS
  go_enter Tryz.func201,Tryz.ntmps201
  go_wp2_with (go_at_call 172;refine (HS.out _).mono ?_;rintro e w' ⟨rfl,hw'⟩;have hw'':=hw'.symm;subst hw'')
  go_ret
  exact ⟨ret_bool (by decide),rfl⟩
 by_cases h61:c = 61
 ·subst h61
  have hsp:spB 61 = false:=rfl
  rw [hsp] at HS
  go_enter Tryz.func201,Tryz.ntmps201
  go_wp2_with (go_at_call 172;refine (HS.out _).mono ?_;rintro e w' ⟨rfl,hw'⟩;have hw'':=hw'.symm;subst hw'')
  go_ret
  exact ⟨ret_bool (by decide),rfl⟩
 have n47:¬ (c.toNat:Int) = 47:=ne_u8 (n:=47) (by decide) h47
 have n62:¬ (c.toNat:Int) = 62:=ne_u8 (n:=62) (by decide) h62
 have n61:¬ (c.toNat:Int) = 61:=ne_u8 (n:=61) (by decide) h61
 have HT:Hid (spB c = true→inAttr c = false):=fun h=>by simp [inAttr,h]
 have HF:Hid (spB c = false→inAttr c = true):=fun h=>by simp [inAttr,h,h47,h62,h61]
 clear h47 h62 h61
 cases hs:spB c with
 | true =>
  rw [hs] at HS
  have HP:Hid (_ = _):=HT.out hs
  clear HT HF hs
  go_enter Tryz.func201,Tryz.ntmps201
  go_wp2_with (go_at_call 172;refine (HS.out _).mono ?_;rintro e w' ⟨rfl,hw'⟩;have hw'':=hw'.symm;subst hw'')
  go_ret
  exact ⟨ret_bool (by rw [HP.out]),rfl⟩
 | false =>
  rw [hs] at HS
  have HP:Hid (_ = _):=HF.out hs
  clear HT HF hs
  go_enter Tryz.func201,Tryz.ntmps201
  go_wp2_with (go_at_call 172;refine (HS.out _).mono ?_;rintro e w' ⟨rfl,hw'⟩;have hw'':=hw'.symm;subst hw'')
  go_ret
  exact ⟨ret_bool (by rw [HP.out];simp [n47,n62,n61]),rfl⟩
set_option maxHeartbeats 2000000 in
theorem val1_any (c:UInt8) (w:World):Calls Tryz.prog 212 #[.int .u8 (c.toNat:Int)] w fun e w'=>e = .returned (.bool (inBare c))∧w' = w:=by
 have HS:Hid (∀ W,Calls Tryz.prog 172 #[.int .u8 (c.toNat:Int)] W fun e w'=>e = .returned (.bool (spB c))∧w' = W):=fun W=>space_any c _ rfl W
 by_cases h62:c = 62
 ·subst h62
  have hsp:spB 62 = false:=rfl
  rw [hsp] at HS
  go_enter Tryz.func212,Tryz.ntmps212
  go_wp2_with (go_at_call 172;refine (HS.out _).mono ?_;rintro e w' ⟨rfl,hw'⟩;have hw'':=hw'.symm;subst hw'')
  go_ret
  exact ⟨ret_bool (by decide),rfl⟩
 have n62:¬ (c.toNat:Int) = 62:=ne_u8 (n:=62) (by decide) h62
 have HT:Hid (spB c = true→inBare c = false):=fun h=>by simp [inBare,h]
 have HF:Hid (spB c = false→inBare c = true):=fun h=>by simp [inBare,h,h62]
 clear h62
 cases hs:spB c with
 | true =>
  rw [hs] at HS
  have HP:Hid (_ = _):=HT.out hs
  clear HT HF hs
  go_enter Tryz.func212,Tryz.ntmps212
  go_wp2_with (go_at_call 172;refine (HS.out _).mono ?_;rintro e w' ⟨rfl,hw'⟩;have hw'':=hw'.symm;subst hw'')
  go_ret
  exact ⟨ret_bool (by rw [HP.out]),rfl⟩
 | false =>
  rw [hs] at HS
  have HP:Hid (_ = _):=HF.out hs
  clear HT HF hs
  go_enter Tryz.func212,Tryz.ntmps212
  go_wp2_with (go_at_call 172;refine (HS.out _).mono ?_;rintro e w' ⟨rfl,hw'⟩;have hw'':=hw'.symm;subst hw'')
  go_ret
  exact ⟨ret_bool (by rw [HP.out];simp [n62]),rfl⟩
set_option maxHeartbeats 2000000 in
theorem val2_any (q c:UInt8) (g:Nat) (w:World) (hg:w.cell? ⟨g,0,none⟩ = some (.int .u8 (q.toNat:Int))):Calls Tryz.prog 213 #[.int .u8 (c.toNat:Int),.pointer (some ⟨g,0,none⟩)] w fun e w'=>e = .returned (.bool (notQ q c))∧w' = w:=by
 have HP:Hid (notQ q c = !((c.toNat:Int) == (q.toNat:Int))):=by
  unfold Hid notQ
  rw [bne]
  congr 1
  rw [Bool.eq_iff_iff]
  simp only [beq_iff_eq]
  exact ⟨fun h=>by rw [h],fun h=>UInt8.toNat_inj.1 (by omega)⟩
 go_enter Tryz.func213,Tryz.ntmps213
 go_wp2
 go_ret
 exact ⟨ret_bool (by rw [HP.out];rfl),rfl⟩
end Go.Proofs.YtbbfcbodhmeanaaGreatDoor



namespace Go.Proofs.YtbbfcbodhmeanaaGreatDoor
abbrev SG:=Bool × List UInt8
def flatS:List SG→List UInt8
 | []=>[]
 | x::ss=>x.2 ++ flatS ss
def leftsS:List SG→Nat→List LK
 | [],_=>[]
 | x::ss,k=>if x.1 = true then ((x.2 ++ flatS ss).length + k,x.2)::leftsS ss k else leftsS ss k
def okR (r r':List UInt8):Prop:=r' = r ∨ (r' ≠ []∧plainT r' = true)
def Rep:List SG→List SG→Prop
 | [],[]=>True
 | x::ss,y::ts=>x.1 = y.1∧(x.1 = true→okR x.2 y.2)∧(x.1 = false→y.2 = x.2)∧Rep ss ts
 | _,_=>False
theorem Rep.refl:∀ (ss:List SG),Rep ss ss
 | []=>trivial
 | _::ss=>⟨rfl,fun _=>.inl rfl,fun _=>rfl,Rep.refl ss⟩
theorem Rep.lit {t:List UInt8} {ss ts:List SG} (h:Rep ((false,t)::ss) ts):∃ us,ts = (false,t)::us∧Rep ss us:=by
 cases ts with
 | nil=>exact h.elim
 | cons y us =>
  obtain ⟨h1,_,h3,h4⟩:=h
  obtain ⟨b,u⟩:=y
  have h1':false = b:=h1
  have h3':u = t:=h3 rfl
  subst h1';subst h3'
  exact ⟨us,rfl,h4⟩
theorem Rep.val {t:List UInt8} {ss ts:List SG} (h:Rep ((true,t)::ss) ts):∃ u us,ts = (true,u)::us∧okR t u∧Rep ss us:=by
 cases ts with
 | nil=>exact h.elim
 | cons y us =>
  obtain ⟨h1,h2,_,h4⟩:=h
  obtain ⟨b,u⟩:=y
  have h1':true = b:=h1
  have h2':okR t u:=h2 rfl
  subst h1'
  exact ⟨u,us,rfl,h2',h4⟩
theorem Rep.nil {ts:List SG} (h:Rep [] ts):ts = []:=by
 cases ts with
 | nil=>rfl
 | cons y us=>exact h.elim
theorem Rep.app:∀ {a b cs:List SG},Rep (a ++ b) cs→∃ a' b',cs = a' ++ b'∧Rep a a'∧Rep b b'
 | [],b,cs,h=>⟨[],cs,rfl,trivial,h⟩
 | x::a,b,[],h=>h.elim
 | x::a,b,y::cs,h=>by
  obtain ⟨h1,h2,h3,h4⟩:=h
  obtain ⟨a',b',e,h5,h6⟩:=Rep.app h4
  exact ⟨y::a',b',by rw [e];rfl,⟨h1,h2,h3,h5⟩,h6⟩
theorem flat_app:∀ (a b:List SG),flatS (a ++ b) = flatS a ++ flatS b
 | [],b=>rfl
 | x::a,b=>by simp [flatS,flat_app a b]
theorem lefts_app:∀ (a b:List SG) (k:Nat),leftsS (a ++ b) k = leftsS a ((flatS b).length + k) ++ leftsS b k
 | [],b,k=>rfl
 | x::a,b,k=>by
  rw [List.cons_append,leftsS,leftsS,lefts_app a b k]
  split
  ·rw [flat_app];simp;omega
  ·rfl
def Stops (p:UInt8→Bool) (X:List UInt8):Prop:=∀ y,X.head? = some y→p y = false
theorem tw_all (p:UInt8→Bool):∀ (s:List UInt8),∀ c ∈ s.takeWhile p,p c = true
 | [],_,h=>by simp at h
 | x::s,c,h=>by
  rw [List.takeWhile_cons] at h
  split at h
  ·rcases List.mem_cons.1 h with rfl | h
   ·assumption
   ·exact tw_all p s c h
  ·simp at h
theorem tw_dw (p:UInt8→Bool) (s:List UInt8):s.takeWhile p ++ s.dropWhile p = s:=List.takeWhile_append_dropWhile
theorem dw_stops (p:UInt8→Bool):∀ (s:List UInt8),Stops p (s.dropWhile p)
 | [],y,h=>by simp at h
 | x::s,y,h=>by
  rw [List.dropWhile_cons] at h
  split at h
  ·exact dw_stops p s y h
  ·rename_i hx;simp at h;subst h;simpa using hx
theorem tw_app (p:UInt8→Bool):∀ (a X:List UInt8),(∀ c ∈ a,p c = true)→Stops p X→(a ++ X).takeWhile p = a∧(a ++ X).dropWhile p = X
 | [],[],_,_=>⟨rfl,rfl⟩
 | [],y::X,_,h=>by
  have:=h y rfl
  simp [this]
 | x::a,X,ha,h=>by
  have h1:=ha x (by simp)
  obtain ⟨h2,h3⟩:=tw_app p a X (fun c hc=>ha c (by simp [hc])) h
  simp [h1,h2,h3]
theorem stops_head {p:UInt8→Bool} {X Y:List UInt8} (h:Stops p X) (e:Y.head? = X.head?):Stops p Y:=fun y hy=>h y (e ▸ hy)
theorem sp_facts {c:UInt8} (h:spB c = true):inAttr c = false∧inName c = false∧inBare c = false∧inGap c = true:=by
 simp [inAttr,inName,inBare,inGap,h]
theorem okT_facts {c:UInt8} (h:okT c = true):inBare c = true∧spB c = false∧qB c = false∧c ≠ 38:=by
 have hc:∀ x:UInt8,c = x→okT x = true:=fun x e=>e ▸ h
 have n:∀ x:UInt8,okT x = false→c ≠ x:=fun x hx e=>by have:=hc x e;rw [hx] at this;cases this
 have a1:=n 32 (by decide);have a2:=n 9 (by decide);have a3:=n 13 (by decide);have a4:=n 10 (by decide);have a5:=n 12 (by decide)
 have b1:=n 62 (by decide);have b2:=n 34 (by decide);have b3:=n 39 (by decide);have b4:=n 38 (by decide)
 have hs:spB c = false:=by simp [spB,a1,a2,a3,a4,a5]
 exact ⟨by simp [inBare,hs,b1],hs,by simp [qB,b2,b3],b4⟩
theorem okT_quote {c q:UInt8} (h:okT c = true) (hq:qB q = true):notQ q c = true:=by
 have h1:=(okT_facts h).2.2.1
 simp only [notQ,bne_iff_ne]
 rintro rfl
 rw [hq] at h1
 cases h1
def NoVal (s r:List UInt8):Prop:=∃ c pre,s = (c::pre) ++ r∧∀ X:List UInt8,X.head? = r.head?→nameP ((c::pre) ++ X) = nameP s∧attrP ((c::pre) ++ X) = (none,X)
def HasVal (s r:List UInt8) (v:LK):Prop:=∃ c pre raw post,s = (c::pre) ++ (raw ++ (post ++ r))∧v = ((raw ++ (post ++ r)).length,raw) ∧
 ∀ raw' X:List UInt8,okR raw raw'→X.head? = r.head?→nameP ((c::pre) ++ (raw' ++ (post ++ X))) = nameP s∧attrP ((c::pre) ++ (raw' ++ (post ++ X))) = (some ((raw' ++ (post ++ X)).length,raw'),X)
theorem name_cons (c:UInt8) (t:List UInt8):nameP (c::t) = c::t.takeWhile inAttr:=rfl
theorem attr_cons (c:UInt8) (t:List UInt8):attrP (c::t) = behP ((t.dropWhile inAttr).dropWhile spB):=rfl
theorem attr_at (c:UInt8) (a sp X:List UInt8) (ha:∀ x ∈ a,inAttr x = true) (hsp:∀ x ∈ sp,spB x = true) (h1:Stops inAttr X) (h2:Stops spB X) :
  nameP ((c::(a ++ sp)) ++ X) = c::a∧attrP ((c::(a ++ sp)) ++ X) = behP X:=by
 have hst:Stops inAttr (sp ++ X):=by
  cases sp with
  | nil=>exact h1
  | cons x sp=>intro y hy;simp at hy;subst hy;exact (sp_facts (hsp x (by simp))).1
 obtain ⟨e1,e2⟩:=tw_app inAttr a (sp ++ X) ha hst
 obtain ⟨e3,e4⟩:=tw_app spB sp X hsp h2
 rw [List.cons_append,name_cons,attr_cons,List.append_assoc,e1,e2,e4]
 exact ⟨rfl,rfl⟩
theorem beh_val (sp2 Y:List UInt8) (hsp:∀ x ∈ sp2,spB x = true) (h:Stops spB Y):behP (61::(sp2 ++ Y)) = (some ((valP Y).1.length,(valP Y).2.1),(valP Y).2.2):=by
 obtain ⟨_,e⟩:=tw_app spB sp2 Y hsp h
 simp only [behP,e]
 rfl
theorem attr_seg (c:UInt8) (t:List UInt8) (v:Option LK) (r:List UInt8) (h:attrP (c::t) = (v,r)) (hr:r ≠ []) :
  (v = none∧NoVal (c::t) r) ∨ ∃ x,v = some x∧HasVal (c::t) r x:=by
 have es:=tw_dw inAttr t
 have ha:=tw_all inAttr t
 have hst:=dw_stops inAttr t
 rw [attr_cons] at h
 generalize t.takeWhile inAttr = a at es ha
 generalize t.dropWhile inAttr = r1 at es hst h
 have es2:=tw_dw spB r1
 have hsp:=tw_all spB r1
 have hst2:=dw_stops spB r1
 have hin:r1.takeWhile spB = []→Stops inAttr (r1.dropWhile spB):=by
  intro e;rw [e,List.nil_append] at es2;rw [es2];exact hst
 generalize r1.takeWhile spB = sp at es2 hsp hin
 generalize r1.dropWhile spB = r2 at es2 hst2 h hin
 subst es2;subst es
 have hnm:∀ X:List UInt8,X.head? = r2.head?→nameP ((c::(a ++ sp)) ++ X) = c::a∧attrP ((c::(a ++ sp)) ++ X) = behP X:=by
  intro X hX
  have h2:Stops spB X:=stops_head hst2 hX
  cases sp with
  | nil=>exact attr_at c a [] X ha hsp (stops_head (hin rfl) hX) h2
  | cons x sp =>
   have hst':Stops inAttr ((x::sp) ++ X):=by intro y hy;simp at hy;subst hy;exact (sp_facts (hsp x (by simp))).1
   obtain ⟨e1,e2⟩:=tw_app inAttr a ((x::sp) ++ X) ha hst'
   obtain ⟨e3,e4⟩:=tw_app spB (x::sp) X hsp h2
   rw [List.cons_append,name_cons,attr_cons,List.append_assoc,e1,e2,e4]
   exact ⟨rfl,rfl⟩
 have hs:c::(a ++ (sp ++ r2)) = (c::(a ++ sp)) ++ r2:=by simp
 have hn:=(hnm r2 rfl).1
 rw [← hs] at hn
 cases r2 with
 | nil=>simp only [behP,Prod.mk.injEq] at h;exact absurd h.2.symm hr
 | cons d u =>
  by_cases hd:d = 61
  ·subst hd
   right
   have es3:=tw_dw spB u
   have hsp3:=tw_all spB u
   have hst3:=dw_stops spB u
   have hb:behP (61::u) = (some ((valP (u.dropWhile spB)).1.length,(valP (u.dropWhile spB)).2.1),(valP (u.dropWhile spB)).2.2):=rfl
   rw [hb] at h
   generalize u.takeWhile spB = sp2 at es3 hsp3
   generalize u.dropWhile spB = u2 at es3 hst3 h
   subst es3
   simp only [Prod.mk.injEq] at h
   obtain ⟨h1,h2⟩:=h
   cases u2 with
   | nil=>exact absurd h2.symm hr
   | cons x u3 =>
    by_cases hq:qB x = true
    ·have hv:valP (x::u3) = (u3,u3.takeWhile (notQ x),(u3.dropWhile (notQ x)).drop 1):=by simp only [valP];rw [if_pos hq]
     rw [hv] at h1 h2
     simp only at h1 h2
     have es4:=tw_dw (notQ x) u3
     have hq4:=tw_all (notQ x) u3
     have hst4:=dw_stops (notQ x) u3
     generalize u3.takeWhile (notQ x) = raw at es4 hq4 h1
     generalize u3.dropWhile (notQ x) = r3 at es4 hst4 h2
     cases r3 with
     | nil=>exact absurd h2.symm hr
     | cons y r4 =>
      have hy:y = x:=by have:=hst4 y rfl;simpa [notQ] using this
      subst hy
      simp only [List.drop_one,List.tail_cons] at h2
      subst h2
      subst es4
      refine ⟨_,h1.symm,c,(a ++ sp) ++ (61::(sp2 ++ [y])),raw,[y],by simp,by simp,fun raw' X hk hX=>?_⟩
      have hall:∀ z ∈ raw',notQ y z = true:=by
       rcases hk with rfl | ⟨_,hp⟩
       ·exact hq4
       ·intro z hz;exact okT_quote (List.all_eq_true.1 hp z hz) hq
      have e0:(c::((a ++ sp) ++ (61::(sp2 ++ [y])))) ++ (raw' ++ ([y] ++ X)) = (c::(a ++ sp)) ++ (61::(sp2 ++ (y::(raw' ++ (y::X))))):=by simp
      rw [e0]
      obtain ⟨k1,k2⟩:=hnm (61::(sp2 ++ (y::(raw' ++ (y::X))))) rfl
      rw [k1,k2,hn]
      refine ⟨rfl,?_⟩
      rw [beh_val sp2 (y::(raw' ++ (y::X))) hsp3 (fun z hz=>by simp at hz;subst hz;exact hst3 _ rfl)]
      have hst5:Stops (notQ y) (y::X):=fun z hz=>by simp at hz;subst hz;simp [notQ]
      obtain ⟨k3,k4⟩:=tw_app (notQ y) raw' (y::X) hall hst5
      simp only [valP]
      rw [if_pos hq,k3,k4]
      simp
    ·have hv:valP (x::u3) = (x::u3,(x::u3).takeWhile inBare,(x::u3).dropWhile inBare):=by simp only [valP];rw [if_neg hq]
     rw [hv] at h1 h2
     simp only at h1 h2
     have hx3:=hst3 x rfl
     have es4:=tw_dw inBare (x::u3)
     have hb4:=tw_all inBare (x::u3)
     have hst4:=dw_stops inBare (x::u3)
     generalize hraw:(x::u3).takeWhile inBare = raw at es4 hb4 h1
     generalize (x::u3).dropWhile inBare = r3 at es4 hst4 h2
     subst h2
     refine ⟨_,h1.symm,c,(a ++ sp) ++ (61::sp2),raw,[],by simp [es4],by simp [es4],fun raw' X hk hX=>?_⟩
     have hall:(∀ z ∈ raw',inBare z = true)∧Stops qB (raw' ++ X)∧Stops spB (raw' ++ X):=by
      have hcase:raw' = raw→Stops qB (raw' ++ X)∧Stops spB (raw' ++ X):=by
       rintro rfl
       have hh:(raw' ++ X).head? = some x:=by
        cases raw' with
        | nil=>rw [List.nil_append,hX];rw [List.nil_append] at es4;rw [es4];rfl
        | cons z raw'=>rw [List.cons_append] at es4;simp only [List.cons_append,List.head?_cons];rw [List.cons.injEq] at es4;rw [es4.1]
       exact ⟨fun z hz=>by rw [hh] at hz;cases hz;simpa using hq,fun z hz=>by rw [hh] at hz;cases hz;exact hx3⟩
      rcases hk with rfl | ⟨hne,hp⟩
      ·exact ⟨hb4,hcase rfl⟩
      ·refine ⟨fun z hz=>(okT_facts (List.all_eq_true.1 hp z hz)).1,?_,?_⟩
       ·intro z hz
        cases raw' with
        | nil=>exact absurd rfl hne
        | cons z' raw'=>simp at hz;subst hz;exact (okT_facts (List.all_eq_true.1 hp _ (by simp))).2.2.1
       ·intro z hz
        cases raw' with
        | nil=>exact absurd rfl hne
        | cons z' raw'=>simp at hz;subst hz;exact (okT_facts (List.all_eq_true.1 hp _ (by simp))).2.1
     obtain ⟨g1,g2,g3⟩:=hall
     have e0:(c::((a ++ sp) ++ (61::sp2))) ++ (raw' ++ ([] ++ X)) = (c::(a ++ sp)) ++ (61::(sp2 ++ (raw' ++ X))):=by simp
     rw [e0]
     obtain ⟨k1,k2⟩:=hnm (61::(sp2 ++ (raw' ++ X))) rfl
     rw [k1,k2,hn]
     refine ⟨rfl,?_⟩
     rw [beh_val sp2 (raw' ++ X) hsp3 g3]
     obtain ⟨k3,k4⟩:=tw_app inBare raw' X g1 (stops_head hst4 hX)
     have hvv:valP (raw' ++ X) = (raw' ++ X,raw',X):=by
      cases hY:raw' ++ X with
      | nil =>
       have:raw' = []∧X = []:=by simpa using hY
       rw [this.1,this.2];rfl
      | cons z Z =>
       rw [hY] at k3 k4 g2
       simp only [valP]
       rw [if_neg (by rw [g2 z rfl];decide),k3,k4]
     rw [hvv]
     simp
  ·left
   simp only [behP] at h
   rw [if_neg hd] at h
   simp only [Prod.mk.injEq] at h
   obtain ⟨rfl,rfl⟩:=h
   refine ⟨rfl,c,a ++ sp,hs,fun X hX=>?_⟩
   obtain ⟨k1,k2⟩:=hnm X hX
   rw [k1,k2,hn]
   refine ⟨rfl,?_⟩
   cases X with
   | nil=>cases hX
   | cons z Z =>
    simp at hX
    subst hX
    simp only [behP]
    rw [if_neg hd]
end Go.Proofs.YtbbfcbodhmeanaaGreatDoor



namespace Go.Proofs.YtbbfcbodhmeanaaGreatDoor
open Go.RowKit
theorem RdAt.drewN {w:World} {g:Nat} {p:ByteArray} {k:Int} (h:RdAt w g p k) (n:Nat):RdAt (w.drewN n) g p k:=by
 unfold RdAt at h ⊢
 exact h
theorem below_many {n:Nat} {w w':World} (h:Below n w w') (m:Nat):Below n w (w'.drewN m):=by
 induction m with
 | zero=>exact h
 | succ m ih=>exact ih.drew
set_option maxHeartbeats 1000000 in
theorem done_any (g:Nat) (p:ByteArray) (k:Int) (w:World) (hr:RdAt w g p k) :
  Calls Tryz.prog 75 #[.pointer (some ⟨g,0,none⟩)] w fun e w'=>e = .returned (.bool (decide ((p.size:Int)≤k)))∧∃ m,w' = w.drewN m:=by
 have h0:=hr.page
 have h1:=hr.at_
 clear hr
 go_enter Tryz.func75,Tryz.ntmps75
 go_wp2
 go_region
 all_goals (
  go_wp2
  go_ret
  exact ⟨rfl,1,rfl⟩)
def QuietAt (F:Nat) (args:Array Value) (v:Value) (w:World):Prop:=∀ n,Calls Tryz.prog F args (w.drewN n) fun e w''=>e = .returned v∧∃ m,w'' = w.drewN m
theorem done_quiet (g:Nat) (p:ByteArray) (k:Int) (b:Bool) (hb:decide ((p.size:Int)≤k) = b) (w:World) (hr:RdAt w g p k):QuietAt 75 #[.pointer (some ⟨g,0,none⟩)] (.bool b) w:=fun n=>by
 subst hb
 exact Calls.quiet_of (done_any g p k _ (hr.drewN n))
set_option maxHeartbeats 2000000 in
theorem sees_any (g:Nat) (p:ByteArray) (k:Nat) (c:UInt8) (cc:Int) (ec:cc = (c.toNat:Int)) (w:World) (hr:RdAt w g p k) :
  Calls Tryz.prog 174 #[.pointer (some ⟨g,0,none⟩),.int .u8 cc] w fun e w'=>e = .returned (.bool ((p.data.toList.drop k).head? == some c))∧∃ m,w' = w.drewN m:=by
 subst ec
 have h0:=hr.page
 have h1:=hr.at_
 by_cases hk:k < p.size
 ·have HD:Hid (QuietAt 75 #[.pointer (some ⟨g,0,none⟩)] (.bool false) w):=done_quiet g p k false (by simp;omega) w hr
  have HV:Hid (((p.data.toList.drop k).head? == some c) = ((p[k].toNat:Int) == (c.toNat:Int))):=by
   unfold Hid
   rw [dropB p k hk,List.head?_cons,Bool.eq_iff_iff]
   simp only [beq_iff_eq,Option.some.injEq]
   exact ⟨fun h=>by rw [h],fun h=>UInt8.toNat_inj.1 (by omega)⟩
  clear hr
  go_enter Tryz.func174,Tryz.ntmps174
  go_wp2_with fail
  go_quiet (first | (go_at_call 75;exact HD.out _) | fail)
  go_wp2_with fail
  go_ret
  exact ⟨ret_bool HV.out.symm,_,rfl⟩
 ·have HD:Hid (QuietAt 75 #[.pointer (some ⟨g,0,none⟩)] (.bool true) w):=done_quiet g p k true (by simp;omega) w hr
  have HV:Hid (((p.data.toList.drop k).head? == some c) = false):=by
   unfold Hid
   rw [List.drop_of_length_le (by rw [← Lib.size_eq];omega)]
   rfl
  clear hr
  go_enter Tryz.func174,Tryz.ntmps174
  go_wp2_with fail
  go_quiet (first | (go_at_call 75;exact HD.out _) | fail)
  go_wp2_with fail
  go_ret
  exact ⟨ret_bool HV.out.symm,_,rfl⟩
structure AskIn (F:Nat) (caps:Array Value) (q:UInt8→Bool) (g:Nat) (OK:World→Prop):Prop where
 call:∀ (args:Array Value) (W:World),Sem.run Tryz.prog (callFunc F args) W = .ok (.enter F args) W
 ask:∀ (c:UInt8) (W:World),OK W→Calls Tryz.prog F (#[.int .u8 (c.toNat:Int)] ++ caps) W fun e w'=>e = .returned (.bool (q c))∧w' = W
 drew:∀ (W:World) (n:Nat),OK W→OK (W.drewN n)
 set:∀ (W:World) (v:Value),OK W→OK (W.setCell ⟨g,1,none⟩ v)
theorem AskIn.quiet {F:Nat} {caps:Array Value} {q:UInt8→Bool} {g:Nat} {OK:World→Prop} (h:AskIn F caps q g OK) (c:UInt8) (b:Bool) (hb:q c = b) (w:World) (hw:OK w):QuietAt F (#[.int .u8 (c.toNat:Int)] ++ caps) (.bool b) w:=fun n=>by
 subst hb
 exact Calls.quiet_of_same (h.ask c _ (h.drew w n hw))
theorem tw_step (q:UInt8→Bool) (p:ByteArray) (k:Nat) (hk:k < p.size) (hq:q p[k] = true):(p.data.toList.drop k).takeWhile q = p[k]::(p.data.toList.drop (k + 1)).takeWhile q:=by
 rw [dropB p k hk,List.takeWhile_cons,if_pos hq]
theorem tw_stop (q:UInt8→Bool) (p:ByteArray) (k:Nat) (hk:k < p.size) (hq:q p[k] = false):(p.data.toList.drop k).takeWhile q = []:=by
 rw [dropB p k hk,List.takeWhile_cons,if_neg (by rw [hq];decide)]
theorem tw_end (q:UInt8→Bool) (p:ByteArray) (k:Nat) (hk:¬ k < p.size):(p.data.toList.drop k).takeWhile q = []:=by
 rw [List.drop_of_length_le (by rw [← Lib.size_eq];omega)]
 rfl
set_option maxHeartbeats 4000000 in
theorem pass_any (F:Nat) (caps:Array Value) (q:UInt8→Bool) (OK:World→Prop) (g:Nat) (p:ByteArray) (k m:Nat) (T:ByteArray) (w:World) (hr:RdAt w g p k) (hOK:OK w) (HQ:AskIn F caps q g OK) (hp:p.size≤4000)
  (hm:m = k + ((p.data.toList.drop k).takeWhile q).length) (hT:p.extract k m = T) (hmp:m≤p.size) :
  Calls Tryz.prog 170 #[.pointer (some ⟨g,0,none⟩),.func (Fn.func F) #[] caps] w fun e w'=>e = .returned (.string T)∧Moves w g m w':=by
 have HA:Hid (AskIn F caps q g OK):=HQ
 have hcall:=HQ.call
 have h0:=hr.page
 have h1:=hr.at_
 have hfr:=hr.frozen 1
 have hmk:k≤m:=by omega
 have HM:Hid (m = k + ((p.data.toList.drop k).takeWhile q).length):=hm
 have HT:Hid (p.extract k m = T):=hT
 clear HQ hm hT
 go_enter Tryz.func170,Tryz.ntmps170
 go_wp2_with fail
 go_loopg [] (p.size + 1 - k) (fun gk wr=>∃ j:Nat,j + gk = p.size + 1∧k≤j∧j≤m∧RdAt wr g p j∧Moves w g j wr∧OK wr∧Hid (m = j + ((p.data.toList.drop j).takeWhile q).length))
 case atStart=>exact ⟨k,by omega,Nat.le_refl _,hmk,hr,Moves.still hr,hOK,HM⟩
 case round =>
  obtain ⟨j,hj1,hj2,hj3,hrj,hmj,hok,HJ⟩:=hrel
  have h0j:=hrj.page
  have h1j:=hrj.at_
  have hfj:=hrj.frozen 1
  have HR:Hid (RdAt w g p k):=hr
  have HRj:Hid (RdAt wr g p j):=hrj
  have HMj:Hid (Moves w g j wr):=hmj
  have HOj:Hid (OK wr):=hok
  clear h0 h1 hfr hr hrj hmj hOK hok
  by_cases hlt:j < p.size
  ·have HD:Hid (QuietAt 75 #[.pointer (some ⟨g,0,none⟩)] (.bool false) wr):=done_quiet g p j false (by simp;omega) wr HRj.out
   by_cases hq:q p[j] = true
   ·have HC:Hid (QuietAt F (#[.int .u8 (p[j].toNat:Int)] ++ caps) (.bool true) wr):=HA.out.quiet p[j] true hq wr HOj.out
    have HN:Hid (m = (j + 1) + ((p.data.toList.drop (j + 1)).takeWhile q).length):=by
     unfold Hid
     have:=HJ.out
     rw [tw_step q p j hlt hq,List.length_cons] at this
     omega
    have hw1:IntKind.i64.wrap ((j:Int) + 1) = ((j + 1:Nat):Int):=by rw [IntKind.wrap_i64];omega
    have hjm:j + 1≤m:=by have:=HN.out;omega
    clear hq HJ
    go_wp2_with fail
    go_quiet (first | (go_at_call 75;exact HD.out _) | exact HC.out _)
    go_wp2_with fail
    go_roundg (gk - 1)
    case measure=>omega
    case rel =>
     exact ⟨j + 1,by omega,by omega,hjm,(HRj.out.drewN _).set _,(HMj.out.then (below_many (Below.refl _ _) _)).trans Moves.of_set HR.out,HA.out.set _ _ (HA.out.drew _ _ HOj.out),HN⟩
   ·have HC:Hid (QuietAt F (#[.int .u8 (p[j].toNat:Int)] ++ caps) (.bool false) wr):=HA.out.quiet p[j] false (by simpa using hq) wr HOj.out
    have hjm:m = j:=by
     have:=HJ.out
     rw [tw_stop q p j hlt (by simpa using hq),List.length_nil] at this
     omega
    subst hjm
    clear hq HJ
    go_wp2_with fail
    go_quiet (first | (go_at_call 75;exact HD.out _) | exact HC.out _)
    have hk1:(k:Int)≤(m:Int):=by omega
    have hk2:(m:Int)≤(p.size:Int):=by omega
    go_wp2_with fail
    go_region
    all_goals (
     go_wp2_with fail
     go_ret
     exact ⟨by rw [← HT.out];rfl,HMj.out.then (below_many (Below.refl _ _) _)⟩)
  ·have HD:Hid (QuietAt 75 #[.pointer (some ⟨g,0,none⟩)] (.bool true) wr):=done_quiet g p j true (by simp;omega) wr HRj.out
   have hjm:m = j:=by
    have:=HJ.out
    rw [tw_end q p j hlt,List.length_nil] at this
    omega
   subst hjm
   clear HJ
   go_wp2_with fail
   go_quiet (first | (go_at_call 75;exact HD.out _) | fail)
   have hk1:(k:Int)≤(m:Int):=by omega
   have hk2:(m:Int)≤(p.size:Int):=by omega
   go_wp2_with fail
   go_region
   all_goals (
    go_wp2_with fail
    go_ret
    exact ⟨by rw [← HT.out];rfl,HMj.out.then (below_many (Below.refl _ _) _)⟩)
theorem ask_space (g:Nat):AskIn 172 #[] spB g (fun _=>True):=⟨fun args W=>by kernel_rfl,fun c W _=>space_any c _ rfl W,fun _ _ _=>trivial,fun _ _ _=>trivial⟩
theorem ask_tag1 (g:Nat):AskIn 171 #[] inName g (fun _=>True):=⟨fun args W=>by kernel_rfl,fun c W _=>tag1_any c W,fun _ _ _=>trivial,fun _ _ _=>trivial⟩
theorem ask_tag2 (g:Nat):AskIn 173 #[] inGap g (fun _=>True):=⟨fun args W=>by kernel_rfl,fun c W _=>tag2_any c W,fun _ _ _=>trivial,fun _ _ _=>trivial⟩
theorem ask_attr1 (g:Nat):AskIn 201 #[] inAttr g (fun _=>True):=⟨fun args W=>by kernel_rfl,fun c W _=>attr1_any c W,fun _ _ _=>trivial,fun _ _ _=>trivial⟩
theorem ask_val1 (g:Nat):AskIn 212 #[] inBare g (fun _=>True):=⟨fun args W=>by kernel_rfl,fun c W _=>val1_any c W,fun _ _ _=>trivial,fun _ _ _=>trivial⟩
theorem ask_val2 (g h:Nat) (q:UInt8) (hgh:h ≠ g):AskIn 213 #[.pointer (some ⟨h,0,none⟩)] (notQ q) g (fun W=>W.cell? ⟨h,0,none⟩ = some (.int .u8 (q.toNat:Int))) :=
 ⟨fun args W=>by kernel_rfl,fun c W hW=>val2_any q c h W hW,fun _ _ h=>h,fun W v hW=>by rw [World.cell?_setCell_other _ _ _ _ (fun e=>hgh (by cases e))];exact hW⟩
end Go.Proofs.YtbbfcbodhmeanaaGreatDoor

