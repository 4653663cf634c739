import Derived.Test.YtbbfcbodhmeanaaGreatDoorXrewritesays16
import Derived.Lib.ConvBytes
set_option maxHeartbeats 8000000
set_option maxRecDepth 1000000
namespace Go.Proofs.YtbbfcbodhmeanaaGreatDoor
open Go.Proofs.Tryz
open Go.RowKit
theorem aDQ{w W:World}{a b c d e f g h:Value}{t:TypeId}(i:Below (w.heap.size+1) (w.alloc (.cells #[a,b,c,d,e,f,g,h] t)) W):
  W.cell? (jx w.heap.size 0)=some a/\W.cell? (jx w.heap.size 1)=some b/\W.cell? (jx w.heap.size 2)=some c/\W.cell? (jx w.heap.size 3)=some d/\
  W.cell? (jx w.heap.size 4)=some e/\W.cell? (jx w.heap.size 5)=some f/\W.cell? (jx w.heap.size 6)=some g/\W.cell? (jx w.heap.size 7)=some h:=by
 refine⟨?_,?_,?_,?_,?_,?_,?_,?_⟩
 all_goals (
  rw[i.cell (by simp)]
  simp)
theorem aKB(u:UL)(h:120<u.sch.length\/120<u.hst.length\/120<u.pth.length\/120<u.qry.length\/120<u.frg.length):aDW u=2:=by
 unfold aDW
 rw[jo (by unfold aKy;simp;omega)]
theorem aKA(u:UL)(h:u.sch.length<=120/\u.hst.length<=120/\u.pth.length<=120/\u.qry.length<=120/\u.frg.length<=120):aDW u=if aVm u=false then 1 else if aHj u=false then 4 else if 120<(aR7 u).length then 2 else 0:=by
 unfold aDW
 rw[jh (by unfold aKy;simp;omega)]
theorem aD2(b hst pth qry a T:jA)(hh hq x:Bool)(E D:Bool)(hm:b.size<=maxLen/\hst.size<=maxLen/\pth.size<=maxLen/\qry.size<=maxLen/\a.size<=maxLen)(w:World)(R:Nat)
  (r:(120<b.size\/120<hst.size\/120<pth.size\/120<qry.size\/120<a.size)->R=2)
  (q:(b.size<=120/\hst.size<=120/\pth.size<=120/\qry.size<=120/\a.size<=120)->(R=if E=false then 1 else if D=false then 4 else if 120<T.size then 2 else 0)/\T.size<=1000
   /\(∀W,Calls prog 145 #[.agg (jU b hh hst pth hq qry x a)] W (jG (.bool E) W))
   /\(∀W,Calls prog 146 #[.agg (jU b hh hst pth hq qry x a)] W (jG (.bool D) W))
   /\(∀W,Calls prog 98 #[.agg (jU b hh hst pth hq qry x a)] W (jG (.string T) W))):
  Calls prog 94 #[.agg (jU b hh hst pth hq qry x a)] w (jG (.int .i64 (R:Int)) w):=by
 unfold maxLen at hm
 obtain⟨m0,m1,m2,m3,m4⟩:=hm
 have o:Hid _:=r
 have f:Hid ((b.size<=120/\hst.size<=120/\pth.size<=120/\qry.size<=120/\a.size<=120)->_):=q
 clear r q
 go_enter func94,ntmps94
 go_wp2
 obtain⟨B,s⟩:∃W,W=w.alloc (.cells (jU b hh hst pth hq qry x a) 85):=⟨_,rfl⟩
 have d:Below w.heap.size w B:=by rw[s];exact ja _ _
 have ab:B.heap.size=w.heap.size+1:=by rw[s];simp
 have c:Hid (∀W,Below B.heap.size B W->W.cell? (jx w.heap.size 0)=some (.string b)/\W.cell? (jx w.heap.size 1)=some (.bool hh)/\W.cell? (jx w.heap.size 2)=some (.string hst)/\W.cell? (jx w.heap.size 3)=some (.string pth)/\W.cell? (jx w.heap.size 4)=some (.bool hq)/\W.cell? (jx w.heap.size 5)=some (.string qry)/\W.cell? (jx w.heap.size 6)=some (.bool x)/\W.cell? (jx w.heap.size 7)=some (.string a)):=λW hb=>by
  rw[ab]at hb
  rw[s]at hb
  exact aDQ hb
 rw[<-s]
 clear s
 go_loop [16] (λiv=>∃k:Nat,k<=5/\iv=.int .i64 k/\Hid ((1<=k->b.size<=120)/\(2<=k->hst.size<=120)/\(3<=k->pth.size<=120)/\(4<=k->qry.size<=120)/\(5<=k->a.size<=120))) (λiv=>5-(intOf iv).toNat)
 case atStart=>exact⟨0,jy _,rfl,⟨λh=>absurd h (by omega),λh=>absurd h (by omega),λh=>absurd h (by omega),λh=>absurd h (by omega),λh=>absurd h (by omega)⟩⟩
 case round=>
  obtain⟨k,hk,rfl,l⟩:=hrel
  rcases (show k=0\/k=1\/k=2\/k=3\/k=4\/k=5 by omega)with rfl|rfl|rfl|rfl|rfl|rfl
  ·have y:∀W:World,(Instr.index 166 (.agg #[.string b,.string hst,.string pth,.string qry,.string a]) (.int .i64 0)).run prog W=.ok (.string b) W:=λW=>by kernel_rfl
   by_cases p:120<b.size
   ·have i:(120:Int)<(b.size:Int):=by omega
    have m:Hid (R=2):=o.out (by omega)
    clear l o f c
    go_wp2
    go_ret
    exact⟨by rw[m.out];rfl,d⟩
   ·have i:¬(120:Int)<(b.size:Int):=by omega
    have j:Hid ((1<=1->b.size<=120)/\(2<=1->hst.size<=120)/\(3<=1->pth.size<=120)/\(4<=1->qry.size<=120)/\(5<=1->a.size<=120)):=by
     have:=l.out
     unfold Hid
     refine⟨λ_=>?_,λ_=>?_,λ_=>?_,λ_=>?_,λ_=>?_⟩<;>omega
    clear l o f c
    go_wp2
    go_round
    case rel=>exact⟨1,by omega,by go_num,j⟩
    case measure=>simp[intOf]
  ·have y:∀W:World,(Instr.index 166 (.agg #[.string b,.string hst,.string pth,.string qry,.string a]) (.int .i64 1)).run prog W=.ok (.string hst) W:=λW=>by kernel_rfl
   by_cases p:120<hst.size
   ·have i:(120:Int)<(hst.size:Int):=by omega
    have m:Hid (R=2):=o.out (by omega)
    clear l o f c
    go_wp2
    go_ret
    exact⟨by rw[m.out];rfl,d⟩
   ·have i:¬(120:Int)<(hst.size:Int):=by omega
    have j:Hid ((1<=2->b.size<=120)/\(2<=2->hst.size<=120)/\(3<=2->pth.size<=120)/\(4<=2->qry.size<=120)/\(5<=2->a.size<=120)):=by
     have:=l.out
     unfold Hid
     refine⟨λ_=>?_,λ_=>?_,λ_=>?_,λ_=>?_,λ_=>?_⟩<;>omega
    clear l o f c
    go_wp2
    go_round
    case rel=>exact⟨2,by omega,by go_num,j⟩
    case measure=>simp[intOf]
  ·have y:∀W:World,(Instr.index 166 (.agg #[.string b,.string hst,.string pth,.string qry,.string a]) (.int .i64 2)).run prog W=.ok (.string pth) W:=λW=>by kernel_rfl
   by_cases p:120<pth.size
   ·have i:(120:Int)<(pth.size:Int):=by omega
    have m:Hid (R=2):=o.out (by omega)
    clear l o f c
    go_wp2
    go_ret
    exact⟨by rw[m.out];rfl,d⟩
   ·have i:¬(120:Int)<(pth.size:Int):=by omega
    have j:Hid ((1<=3->b.size<=120)/\(2<=3->hst.size<=120)/\(3<=3->pth.size<=120)/\(4<=3->qry.size<=120)/\(5<=3->a.size<=120)):=by
     have:=l.out
     unfold Hid
     refine⟨λ_=>?_,λ_=>?_,λ_=>?_,λ_=>?_,λ_=>?_⟩<;>omega
    clear l o f c
    go_wp2
    go_round
    case rel=>exact⟨3,by omega,by go_num,j⟩
    case measure=>simp[intOf]
  ·have y:∀W:World,(Instr.index 166 (.agg #[.string b,.string hst,.string pth,.string qry,.string a]) (.int .i64 3)).run prog W=.ok (.string qry) W:=λW=>by kernel_rfl
   by_cases p:120<qry.size
   ·have i:(120:Int)<(qry.size:Int):=by omega
    have m:Hid (R=2):=o.out (by omega)
    clear l o f c
    go_wp2
    go_ret
    exact⟨by rw[m.out];rfl,d⟩
   ·have i:¬(120:Int)<(qry.size:Int):=by omega
    have j:Hid ((1<=4->b.size<=120)/\(2<=4->hst.size<=120)/\(3<=4->pth.size<=120)/\(4<=4->qry.size<=120)/\(5<=4->a.size<=120)):=by
     have:=l.out
     unfold Hid
     refine⟨λ_=>?_,λ_=>?_,λ_=>?_,λ_=>?_,λ_=>?_⟩<;>omega
    clear l o f c
    go_wp2
    go_round
    case rel=>exact⟨4,by omega,by go_num,j⟩
    case measure=>simp[intOf]
  ·have y:∀W:World,(Instr.index 166 (.agg #[.string b,.string hst,.string pth,.string qry,.string a]) (.int .i64 4)).run prog W=.ok (.string a) W:=λW=>by kernel_rfl
   by_cases p:120<a.size
   ·have i:(120:Int)<(a.size:Int):=by omega
    have m:Hid (R=2):=o.out (by omega)
    clear l o f c
    go_wp2
    go_ret
    exact⟨by rw[m.out];rfl,d⟩
   ·have i:¬(120:Int)<(a.size:Int):=by omega
    have j:Hid ((1<=5->b.size<=120)/\(2<=5->hst.size<=120)/\(3<=5->pth.size<=120)/\(4<=5->qry.size<=120)/\(5<=5->a.size<=120)):=by
     have:=l.out
     unfold Hid
     refine⟨λ_=>?_,λ_=>?_,λ_=>?_,λ_=>?_,λ_=>?_⟩<;>omega
    clear l o f c
    go_wp2
    go_round
    case rel=>exact⟨5,by omega,by go_num,j⟩
    case measure=>simp[intOf]
  ·obtain⟨k1,k2,k3,k4,k5⟩:=l.out
   obtain⟨hR,hT,CW,CF,CT⟩:=f.out ⟨k1 (by omega),k2 (by omega),k3 (by omega),k4 (by omega),k5 (by omega)⟩
   have z:Hid _:=hR
   have F:Hid (∀W,Calls prog 145 #[.agg (jU b hh hst pth hq qry x a)] W (jG (.bool E) W)):=CW
   have C:Hid (∀W,Calls prog 146 #[.agg (jU b hh hst pth hq qry x a)] W (jG (.bool D) W)):=CF
   have t:Hid (∀W,Calls prog 98 #[.agg (jU b hh hst pth hq qry x a)] W (jG (.string T) W)):=CT
   clear k1 k2 k3 k4 k5 hR CW CF CT l o f m0 m1 m2 m3 m4
   obtain⟨G,I,L,N,P,U,X,Z⟩:=c.out B (jr _ _)
   cases E with
   |false=>
    have m:Hid _:=z.out
    clear C t z c
    go_wp2_with fail
    refine(F.out _).mono ?_
    rintro e w1 ⟨rfl,n⟩
    go_wp2
    go_ret
    exact⟨by rw[m.out];rfl,d.trans (n.mono d.size)⟩
   |true=>
    go_wp2_with fail
    refine(F.out _).mono ?_
    rintro e w1 ⟨rfl,n⟩
    obtain⟨H,J,M,O,S,V,Y,aa⟩:=c.out w1 n
    clear F G I L N P U X Z
    cases D with
    |false=>
     have m:Hid _:=z.out
     clear t z c
     go_wp2_with fail
     refine(C.out _).mono ?_
     rintro e w2 ⟨rfl,v⟩
     have g:=n.trans (v.mono n.size)
     go_wp2
     go_ret
     exact⟨by rw[m.out];rfl,d.trans (g.mono d.size)⟩
    |true=>
     go_wp2_with fail
     refine(C.out _).mono ?_
     rintro e w2 ⟨rfl,v⟩
     have g:=n.trans (v.mono n.size)
     obtain⟨ac,ad,ae,af,ag,ah,ai,aj⟩:=c.out w2 g
     clear C n v H J M O S V Y aa
     by_cases p:120<T.size
     ·have m:Hid (R=2):=by unfold Hid;rw[z.out,jh (by simp),jh (by simp),jo p]
      have i:(120:Int)<(T.size:Int):=by omega
      clear z c
      go_wp2_with fail
      refine(t.out _).mono ?_
      rintro e w3 ⟨rfl,A⟩
      go_wp2
      go_ret
      exact⟨by rw[m.out];rfl,d.trans ((g.trans (A.mono g.size)).mono d.size)⟩
     ·have m:Hid (R=0):=by unfold Hid;rw[z.out,jh (by simp),jh (by simp),jh p]
      have i:¬(120:Int)<(T.size:Int):=by omega
      clear z c
      go_wp2_with fail
      refine(t.out _).mono ?_
      rintro e w3 ⟨rfl,A⟩
      go_wp2
      go_ret
      exact⟨by rw[m.out];rfl,d.trans ((g.trans (A.mono g.size)).mono d.size)⟩
theorem UV.short.mono{u:UV}{n m:Nat}(h:u.short n)(g:n<=m):u.short m:=by
 obtain⟨a,b,c,d,f⟩:=h
 exact⟨by omega,by omega,by omega,by omega,by omega⟩
theorem aLi(u:UV):∃T:jA,T.data.toList=aR7 u.l:=⟨⟨(aR7 u.l).toArray⟩,rfl⟩
theorem aSF(u:UV)(h:u.short 120):(aR7 u.l).length<=1000:=by
 obtain⟨f,g,i,j,k⟩:=h
 rw[Lib.size_eq]at f g i j k
 have o:∀(b:Bool) (l:jB),(opt b l).length<=l.length:=λb l=>by cases b<;>simp[opt]
 unfold aR7 UV.l
 simp only[je]
 have e1:=o (!u.sch.data.toList.isEmpty) (u.sch.data.toList++[58])
 have a:=o u.hh ([47,47]++u.hst.data.toList)
 have c:=o u.hq (63::u.qry.data.toList)
 have d:=o u.hf (35::u.frg.data.toList)
 simp only[je,jm,jag]at e1 a c d
 omega
theorem aTG(u:UV)(c:u.short maxLen)(w:World):
  Calls prog 94 #[u.v] w (jG (.int .i64 (aDW u.l:Nat)) w):=by
 obtain⟨T,b⟩:=aLi u
 have E:∀s:jA,s.data.toList.length=s.size:=λs=>(Lib.size_eq s).symm
 refine aD2 u.sch u.hst u.pth u.qry u.frg T u.hh u.hq u.hf (aVm u.l) (aHj u.l) c w _ ?_ ?_
 ·intro h
  refine aKB _ ?_
  show 120<u.sch.data.toList.length\/120<u.hst.data.toList.length\/120<u.pth.data.toList.length\/120<u.qry.data.toList.length\/120<u.frg.data.toList.length
  rw[E,E,E,E,E];exact h
 ·intro h
  have a:u.short 120:=h
  refine⟨?_,?_,λW=>aUo u (a.mono (by omega)) W,λW=>aTS u (a.mono (by omega)) W,λW=>aUm u (a.mono (by omega)) T b W⟩
  ·rw[aKA _ (by
    show u.sch.data.toList.length<=120/\u.hst.data.toList.length<=120/\u.pth.data.toList.length<=120/\u.qry.data.toList.length<=120/\u.frg.data.toList.length<=120
    rw[E,E,E,E,E];exact h),<-b,E]
  ·rw[Lib.size_eq,b];exact aSF u a
theorem aDX{u:UV}(h:aDW u.l=0):u.short 120:=by
 obtain⟨f,_⟩:=aDY h
 obtain⟨a,b,c,d,e⟩:=aKz f
 refine⟨?_,?_,?_,?_,?_⟩
 all_goals (rw[Lib.size_eq];assumption)
def aA8(w:World)(r:jB×Nat)(e:Ending)(w':World):Prop:=e=.returned (.tuple #[.string ⟨r.1.toArray⟩,.int .i64 (r.2:Int)])/\jb w w'
theorem aNV(d hst pth qry b T:jA)(hh hq g:Bool)(n:Nat)(w:World)
  (l:Hid (∀W,Calls prog 94 #[.agg (jU d hh hst pth hq qry g b)] W (jG (.int .i64 (n:Int)) W)))
  (o:Hid (n=0->∀W,Calls prog 98 #[.agg (jU d hh hst pth hq qry g b)] W (jG (.string T) W))):
  Calls prog 52 #[.agg (jU d hh hst pth hq qry g b)] w (jG (.tuple #[if n=0 then .string T else .string jz,.int .i64 (n:Int)]) w):=by
 have f:Hid (∀W,Below (w.heap.size+1) (w.alloc (.cells (jU d hh hst pth hq qry g b) 85)) W->W.cell? (jx w.heap.size 0)=some (.string d)/\W.cell? (jx w.heap.size 1)=some (.bool hh)/\W.cell? (jx w.heap.size 2)=some (.string hst)/\W.cell? (jx w.heap.size 3)=some (.string pth)/\W.cell? (jx w.heap.size 4)=some (.bool hq)/\W.cell? (jx w.heap.size 5)=some (.string qry)/\W.cell? (jx w.heap.size 6)=some (.bool g)/\W.cell? (jx w.heap.size 7)=some (.string b)):=λW q=>aDQ q
 by_cases p:n=0
 ·subst p
  have i:Hid (∀W,Calls prog 98 #[.agg (jU d hh hst pth hq qry g b)] W (jG (.string T) W)):=o.out rfl
  rw[jo rfl]
  clear o
  go_enter func52,ntmps52
  go_wp2_with fail
  refine(l.out _).mono ?_
  rintro e m ⟨rfl,c⟩
  have a:jb w m:=(ja _ _).trans (c.mono (by simp))
  obtain⟨c0,c1,c2,c3,c4,c5,c6,t⟩:=f.out m (by simpa using c)
  clear l f c
  go_wp2_with fail
  refine(i.out _).mono ?_
  rintro e s ⟨rfl,j⟩
  have k:jb w s:=a.trans (j.mono a.size)
  clear i j
  go_wp2
  go_ret2
  exact⟨rfl,k⟩
 ·rw[jh p]
  have r:((n:Int)==0)=false:=by rw[jg];omega
  clear o f
  go_enter func52,ntmps52
  go_wp2_with fail
  refine(l.out _).mono ?_
  rintro e m ⟨rfl,c⟩
  have a:jb w m:=(ja _ _).trans (c.mono (by simp))
  clear l c
  go_wp2
  go_ret2
  exact⟨rfl,a⟩
theorem aUg(u:UV)(c:u.short maxLen)(w:World):
  Calls prog 52 #[u.v] w λe w'=>aA8 w (aNT u.l) e w':=by
 obtain⟨T,a⟩:=aLi u
 refine(aNV u.sch u.hst u.pth u.qry u.frg T u.hh u.hq u.hf (aDW u.l) w (λW=>aTG u c W) (λh W=>aUm u ((aDX h).mono (by omega)) T a W)).mono ?_
 rintro e w' ⟨rfl,b⟩
 refine⟨?_,b⟩
 unfold aNT
 by_cases h:aDW u.l=0
 ·rw[jo h,jo h,<-a,h]
 ·rw[jh h,jh h]
def smk(k:Nat)(l:jB):jB:=aQJ (l.take k)++l.drop k
theorem aQV(k:Nat)(l:jB):(smk k l).length=l.length:=by
 unfold smk aQJ
 rw[je,jD,jF,jH]
 omega
theorem aQT(l:jB):smk l.length l=aQJ l:=by
 unfold smk
 rw[List.take_length,List.drop_length,j6]
theorem aQU(k:Nat)(l:jB)(h:k<l.length):(smk k l).getD k 0=l.getD k 0:=by
 unfold smk aQJ
 rw[jd,jS (by simp;omega),jD,jF,jbf (by omega),jbh,jax,jd]
 rfl
theorem aQW(k:Nat)(l:jB)(h:k<l.length):smk (k+1) l=(smk k l).set k (aKI (l.getD k 0)):=by
 have a:(aQJ (l.take k)).length=k:=by unfold aQJ;rw[jD,jF];omega
 unfold smk
 rw[jef _ _ (by omega),a,jbh,jE h,jv]
 rw[jan,jc h]
 unfold aQJ
 rw[jbg,jJ]
 simp[List.getD_eq_getElem?_getD,List.getElem?_eq_getElem h]
theorem aP6(l:jB)(k i:Nat)(v:UInt8)(h:k<l.length):(l.set k v).getD i 0=if i=k then v else l.getD i 0:=by
 rw[jd,List.getElem?_set]
 by_cases a:k=i
 ·subst a;simp[h]
 ·rw[jh a,jh (jaz a),jd]
theorem aQa(l:jB)(k:Nat)(h:k<l.length):l.set k (l.getD k 0)=l:=by
 rw[jd,jc h]
 simp
theorem aUj(s:jA)(w:World)(O:s.size<=1000000):
  Calls prog 91 #[.string s] w (jG (.string ⟨(aQJ s.data.toList).toArray⟩) w):=by
 have M:(convert 9 22 (.string s)).run prog w=.ok (.slice (some ⟨w.heap.size,0,none⟩) s.size (grownCap w s.size 0 5)) (Lib.bytesWorld w 5 s):=Lib.run_convert_string_bytes w _ _ _ s underlying9 underlying22 underlying5
 have L:jb w (Lib.bytesWorld w 5 s):=⟨rfl,rfl,rfl,by rw[Lib.bytesWorld_size];omega,λk G=>Lib.bytesWorld_at_old w _ s k G⟩
 have v:Hid (∀i,i<s.size->(Lib.bytesWorld w 5 s).cell? ⟨w.heap.size,i,none⟩=some (.int .u8 ((s.data.toList.getD i 0).toNat:Int))):=λi b=>Lib.bytesWorld_cell w _ s i b
 have y:Hid (∀i,i<s.size->(Lib.bytesWorld w 5 s).frozen? ⟨w.heap.size,i,none⟩=false):=λi b=>by
  unfold World.frozen?
  simp only[Lib.bytesWorld_at_new]
  have:s.size<=(Lib.bytesCells w 5 s).size:=by unfold Lib.bytesCells;simp
  rw[Bool.and_eq_false_iff]
  left
  rw[jda]
  omega
 generalize grownCap w s.size 0 5=A at*
 generalize Lib.bytesWorld w 5 s=P at*
 have g:Hid (s.size=s.data.toList.length):=Lib.size_eq s
 go_enter func91,ntmps91
 go_wp2
 go_loopw[10] (λiv wr=>∃k:Nat,k<=s.size/\iv=.int .i64 k/\jb w wr/\Hid (∀i,i<s.size->wr.cell? ⟨w.heap.size,i,none⟩=some (.int .u8 (((smk k s.data.toList).getD i 0).toNat:Int)))/\Hid (∀i,i<s.size->wr.frozen? ⟨w.heap.size,i,none⟩=false)) (λiv _=>s.size-(intOf iv).toNat)
 case atStart=>exact⟨0,jy _,rfl,L,v,y⟩
 case round=>
  obtain⟨k,G,rfl,d,l,x⟩:=hrel
  clear v y
  by_cases p:k<s.size
  ·have a:k<s.data.toList.length:=by rw[<-g.out];exact p
   have n:=l.out k p
   rw[aQU k _ a]at n
   have N:=x.out k p
   obtain⟨c,t⟩:∃c,s.data.toList.getD k 0=c:=⟨_,rfl⟩
   rw[t]at n
   have r:Hid (Calls prog 140 #[.int .u8 (c.toNat:Int)] wr λe w'=>e=.returned (.bool (aI4 c))/\w'=wr):=aTT c wr
   cases j:aI4 c with
   |false=>
    rw[j]at r
    have m:Hid (∀i,i<s.size->wr.cell? ⟨w.heap.size,i,none⟩=some (.int .u8 (((smk (k+1) s.data.toList).getD i 0).toNat:Int))):=λi b=>by
     rw[aQW k _ a,t,show aKI c=c from by unfold aKI;rw[j];rfl,<-t,<-aQU k _ a,aQa _ k (by rw[aQV];exact a)]
     exact l.out i b
    clear l t j
    go_wp2_with fail
    refine r.out.mono ?_
    rintro e w' ⟨rfl,q⟩
    have f:=q.symm
    subst f
    clear r
    go_wp2
    go_roundw
    case rel=>exact⟨k+1,by omega,by go_num,d,m,x⟩
    case measure=>simp[intOf];omega
   |true=>
    rw[j]at r
    have E:65<=c.toNat/\c.toNat<=90:=by unfold aI4 at j;simpa using j
    have I:(65:Int)<=(c.toNat:Int):=by omega
    have J:(c.toNat:Int)<=90:=by omega
    have z:(c.toNat:Int)-65+97=((aKI c).toNat:Int):=by
     have:(aKI c).toNat=c.toNat+32:=by
      unfold aKI
      rw[jo j,jec]
      show(c.toNat+32)%256=_
      omega
     omega
    have m:Hid (∀i,i<s.size->(wr.setCell ⟨w.heap.size,k,none⟩ (.int .u8 ((aKI c).toNat:Int))).cell? ⟨w.heap.size,i,none⟩=some (.int .u8 (((smk (k+1) s.data.toList).getD i 0).toNat:Int))):=λi b=>by
     rw[aQW k _ a,t,aP6 _ _ _ _ (by rw[aQV];exact a)]
     by_cases o:i=k
     ·subst o
      rw[jo rfl]
      exact jch _ _ _ n
     ·rw[jh o,jae _ _ _ _ (λe=>o (by injection e with _ e _;exact e.symm))]
      exact l.out i b
    have B:Hid (∀i,i<s.size->(wr.setCell ⟨w.heap.size,k,none⟩ (.int .u8 ((aKI c).toNat:Int))).frozen? ⟨w.heap.size,i,none⟩=false):=λi b=>by
     rw[jee];exact x.out i b
    have C:jb w (wr.setCell ⟨w.heap.size,k,none⟩ (.int .u8 ((aKI c).toNat:Int))):=d.setCell (jf _) _
    clear l x t j E
    go_wp2_with fail
    refine r.out.mono ?_
    rintro e w' ⟨rfl,q⟩
    have f:=q.symm
    subst f
    clear r
    go_wp2
    try simp only[z]
    go_roundw
    case rel=>exact⟨k+1,by omega,by go_num,C,m,B⟩
    case measure=>simp[intOf];omega
  ·obtain rfl:k=s.size:=by omega
   have H:aAe wr (some ⟨w.heap.size,0,none⟩) (aQJ s.data.toList):=λ_=>⟨w.heap.size,0,rfl,λi b=>by
    have D:i<s.size:=by rw[g.out];unfold aQJ at b;rw[jD]at b;exact b
    have:=l.out i D
    rw[g.out,aQT]at this
    rw[j0]
    exact this⟩
   have F:=aED wr (some ⟨w.heap.size,0,none⟩) s.size A (aQJ s.data.toList) (by rw[g.out];unfold aQJ;rw[jD]) H (λe=>by cases e)
   clear l x H
   go_wp2
   go_ret
   exact⟨rfl,d⟩
theorem aER:∀(l a r:jB),aEP l=some (a,r)->l=a++58::r
 |[],_,_,h=>by cases h
 |c::l,a,r,h=>by
  rw[aEP]at h
  split at h
  ·rename_i e;subst e;cases h;rfl
  ·split at h
   ·cases h
   ·cases b:aEP l with
    |none=>rw[b]at h;cases h
    |some x=>
     obtain⟨d,f⟩:=x
     rw[b]at h
     cases h
     rw[aER l d f b];rfl
theorem aET(l:jB):(aES l).1++(aES l).2=l:=by
 unfold aES
 cases a:aEM 47 l with
 |none=>simp
 |some x=>
  obtain⟨b,c⟩:=x
  exact((aEO 47 l b c a).1).symm
theorem aEX(d:UInt8)(l:jB):(aEW d l).1++opt (aEW d l).2.2 (d::(aEW d l).2.1)=l:=by
 unfold aEW
 cases a:aEM d l with
 |none=>simp[opt]
 |some x=>
  obtain⟨b,c⟩:=x
  simp only[opt,jdl]
  exact((aEO d l b c a).1).symm
end Go.Proofs.YtbbfcbodhmeanaaGreatDoor
