
import Derived.Lib.Strings
import Derived.Lib.Bytealg
import Derived.Test.YtbbfcbodhmeanaaGreatDoorRows
import Derived.WalkKit
import Derived.WalkSpells
import Derived.WalkSmall
import Derived.Deep.QuietTactic
import Derived.BigQuiet
import Derived.Deep.LoopGhost
import Derived.Deep.Draws
import Derived.Laws.IdiomStrings
import Derived.ProofKit
import Derived.OpenShut
import Derived.Deep.RegionLaw
namespace Go.Proofs.YtbbfcbodhmeanaaGreatDoor
def specials:List UInt8:=[40,41,60,62,64,44,59,58,92,34,47,91,93,63,61]
def inB (lo hi:Nat) (but:List UInt8) (c:UInt8):Bool:=decide (lo≤c.toNat) && decide (c.toNat≤hi) && !but.contains c
def betw (lo hi:Nat) (but l:List UInt8):Bool:=l.all (inB lo hi but)
theorem betw_cons (lo hi:Nat) (but:List UInt8) (c:UInt8) (l:List UInt8):betw lo hi but (c::l) = (inB lo hi but c && betw lo hi but l):=rfl
def tokenS (l:List UInt8):Bool:=decide (1≤l.length) && decide (l.length≤30) && betw 33 126 specials l
theorem indexByte_mem (l : List UInt8) (c : UInt8) : decide (0 ≤ Lib.indexByte l c) = l.contains c := by
  induction l with
  | nil => rfl
  | cons b l ih =>
    rw [Lib.indexByte]
    by_cases h : b = c
    · subst h; simp
    · have h2 : (c == b) = false := by rw [beq_eq_false_iff_ne]; exact fun e => h e.symm
      rw [if_neg (by simpa using h), List.contains_cons, h2, Bool.false_or, ← ih]
      by_cases h1 : Lib.indexByte l c = -1
      · rw [h1]; rfl
      · rw [if_neg (by simpa using h1)]
        have : -1 ≤ Lib.indexByte l c := by
          clear ih h h2 h1
          induction l with
          | nil => simp [Lib.indexByte]
          | cons b l ih => rw [Lib.indexByte]; split; · omega
                           · split; · omega
                             · omega
        by_cases h0 : 0 ≤ Lib.indexByte l c
        · simp [h0]; omega
        · omega
end Go.Proofs.YtbbfcbodhmeanaaGreatDoor



namespace Go.Proofs.YtbbfcbodhmeanaaGreatDoor
def dropEnd (p:UInt8→Bool) (l:List UInt8):List UInt8:=(l.reverse.dropWhile p).reverse
def trimBy (p:UInt8→Bool) (l:List UInt8):List UInt8:=(dropEnd p l).dropWhile p
theorem dropEnd_yes (p:UInt8→Bool) (x:List UInt8) (c:UInt8) (h:p c = true):dropEnd p (x ++ [c]) = dropEnd p x:=by
 unfold dropEnd;rw [List.reverse_append,List.reverse_singleton,List.singleton_append,List.dropWhile_cons,if_pos h]
theorem dropEnd_no (p:UInt8→Bool) (x:List UInt8) (c:UInt8) (h:p c = false):dropEnd p (x ++ [c]) = x ++ [c]:=by
 unfold dropEnd;rw [List.reverse_append,List.reverse_singleton,List.singleton_append,List.dropWhile_cons,if_neg (by simp [h])];simp
end Go.Proofs.YtbbfcbodhmeanaaGreatDoor



namespace Go.Proofs.YtbbfcbodhmeanaaGreatDoor
def cutB (d:UInt8):List UInt8→Option (List UInt8 × List UInt8)
 | []=>none
 | c::r=>if c = d then some ([],r) else (cutB d r).map fun x=>(c::x.1,x.2)
theorem cutB_some (d:UInt8):∀ (l a b:List UInt8),cutB d l = some (a,b)→l = a ++ d::b∧∀ c ∈ a,c ≠ d
 | [],_,_,h=>by cases h
 | c::r,a,b,h=>by
  rw [cutB] at h
  split at h
  ·rename_i e;subst e;cases h;exact ⟨rfl,by simp⟩
  ·rename_i e
   cases hr:cutB d r with
   | none=>rw [hr] at h;cases h
   | some x =>
    obtain ⟨x1,x2⟩:=x
    rw [hr] at h
    cases h
    obtain ⟨h1,h2⟩:=cutB_some d r x1 x2 hr
    refine ⟨by rw [h1];rfl,?_⟩
    intro y hy
    rcases List.mem_cons.1 hy with rfl | hy
    ·exact e
    ·exact h2 y hy
theorem cutB_at (d:UInt8):∀ (a b:List UInt8),(∀ c ∈ a,c ≠ d)→cutB d (a ++ d::b) = some (a,b)
 | [],b,_=>by simp [cutB]
 | c::a,b,h=>by
  rw [List.cons_append,cutB,if_neg (h c (by simp)),cutB_at d a b (fun x hx=>h x (by simp [hx]))]
  rfl
end Go.Proofs.YtbbfcbodhmeanaaGreatDoor



namespace Go.Proofs.YtbbfcbodhmeanaaGreatDoor
structure PT where
 ty:ByteArray
 cs:ByteArray
 id:ByteArray
 loc:ByteArray
 how:Int
 body:List UInt8
 kids:List PT
def pt0:PT:=⟨⟨#[]⟩,⟨#[]⟩,⟨#[]⟩,⟨#[]⟩,0,[],[]⟩
def PT.alone (p:PT):PT:={ p with kids:=[] }
def multi:List UInt8:=[109,117,108,116,105,112,97,114,116,47]
def typeS (s:List UInt8):Bool:=match cutB 47 s with
 | none=>false
 | some x=>tokenS x.1 && tokenS x.2 && !s.any (fun c=>decide (65≤c.toNat) && decide (c.toNat≤90))
def manyS (s:List UInt8):Bool:=Lib.hasPrefix s multi
def wordC:UInt8→Bool:=inB 33 126 [34,60,62]
def wordS (s:List UInt8):Bool:=decide (s.length≤120) && s.all wordC
def textsOk (p:PT):Bool:=typeS p.ty.data.toList && (p.cs.data.toList.isEmpty || tokenS p.cs.data.toList) && wordS p.id.data.toList && wordS p.loc.data.toList
def formedP (p:PT):Bool :=
 if manyS p.ty.data.toList then !p.kids.isEmpty && p.body.isEmpty && decide (p.how = 0) && p.cs.data.toList.isEmpty
 else p.kids.isEmpty
def chkA (p:PT):Nat :=
 if textsOk p = false then 1 else if p.how < 0 ∨ 2 < p.how then 3 else if 4000 < p.body.length then 2 else if formedP p = false then 4 else 0
def put:Nat→List (PT × Int)→PT→Nat→Int→Option (List (PT × Int))
 | 0,_,_,_,_=>none
 | f + 1,l,p,depth,inn =>
  if l.length = 12 ∨ 3 < depth then none
  else p.kids.foldl (fun acc k=>acc.bind fun m=>put f m k (depth + 1) l.length) (some (l ++ [(p,inn)]))
def putAll (f:Nat) (depth:Nat) (inn:Int) (l:List (PT × Int)) (ks:List PT):Option (List (PT × Int)) :=
 ks.foldl (fun acc k=>acc.bind fun m=>put f m k depth inn) (some l)
theorem foldl_none (f:Nat) (depth:Nat) (inn:Int):∀ ks:List PT,ks.foldl (fun acc k=>acc.bind fun m=>put f m k depth inn) none = none
 | []=>rfl
 | _::ks=>by rw [List.foldl_cons];exact foldl_none f depth inn ks
theorem putAll_nil (f depth:Nat) (inn:Int) (l:List (PT × Int)):putAll f depth inn l [] = some l:=rfl
theorem putAll_some (f depth:Nat) (inn:Int) (l m:List (PT × Int)) (k:PT) (ks:List PT) (h:put f l k depth inn = some m):putAll f depth inn l (k::ks) = putAll f depth inn m ks:=by
 unfold putAll;rw [List.foldl_cons,Option.bind_some,h]
theorem putAll_none (f depth:Nat) (inn:Int) (l:List (PT × Int)) (k:PT) (ks:List PT) (h:put f l k depth inn = none):putAll f depth inn l (k::ks) = none:=by
 unfold putAll;rw [List.foldl_cons,Option.bind_some,h,foldl_none]
theorem put_stop (f:Nat) (l:List (PT × Int)) (p:PT) (depth:Nat) (inn:Int) (h:l.length = 12 ∨ 3 < depth):put (f + 1) l p depth inn = none:=by rw [put,if_pos h]
theorem put_go (f:Nat) (l:List (PT × Int)) (p:PT) (depth:Nat) (inn:Int) (h:¬ (l.length = 12 ∨ 3 < depth)):put (f + 1) l p depth inn = putAll f (depth + 1) l.length (l ++ [(p,inn)]) p.kids:=by rw [put,if_neg h];rfl
theorem putAll_length (f:Nat) (ih:∀ l m p depth inn,l.length≤12→put f l p depth inn = some m→l.length≤m.length∧m.length≤12) (depth:Nat) (inn:Int):∀ (ks:List PT) (l m:List (PT × Int)),l.length≤12→putAll f depth inn l ks = some m→l.length≤m.length∧m.length≤12
 | [],l,m,hl,h=>by rw [putAll_nil] at h;cases h;exact ⟨Nat.le_refl _,hl⟩
 | k::ks,l,m,hl,h=>by
  cases hk:put f l k depth inn with
  | none=>rw [putAll_none f depth inn l k ks hk] at h;cases h
  | some n =>
   rw [putAll_some f depth inn l n k ks hk] at h
   have h1:=ih l n k depth inn hl hk
   have h2:=putAll_length f ih depth inn ks n m h1.2 h
   omega
theorem put_length:∀ (f:Nat) (l m:List (PT × Int)) (p:PT) (depth:Nat) (inn:Int),l.length≤12→put f l p depth inn = some m→l.length≤m.length∧m.length≤12
 | 0,_,_,_,_,_,_,h=>by rw [put] at h;cases h
 | f + 1,l,m,p,depth,inn,hl,h=>by
  by_cases hs:l.length = 12 ∨ 3 < depth
  ·rw [put_stop f l p depth inn hs] at h;cases h
  ·rw [put_go f l p depth inn hs] at h
   have:=putAll_length f (put_length f) (depth + 1) l.length p.kids (l ++ [(p,inn)]) m (by rw [List.length_append];simp;omega) h
   rw [List.length_append] at this
   omega
def firstBad:List (PT × Int)→Nat
 | []=>0
 | x::l=>if chkA x.1 = 0 then firstBad l else chkA x.1
def placesP (p:PT):Nat × List (PT × Int):=match put 4 [] p 1 (-1) with
 | none=>(2,[])
 | some l=>if firstBad l = 0 then (0,l) else (firstBad l,[])
end Go.Proofs.YtbbfcbodhmeanaaGreatDoor



namespace Go.Proofs.YtbbfcbodhmeanaaGreatDoor
open Go.RowKit
def Row (k:IntKind) (w:World) (p:Option Addr) (n:Nat) (xs:List Int):Prop :=
 xs.length = n∧(n ≠ 0→∃ b o,p = some ⟨b,o,none⟩∧∀ i,i < n→w.cell? ⟨b,o + i,none⟩ = some (.int k (xs.getD i 0)))
theorem ret_bool {a b:Bool} (h:a = b):Ending.returned (.bool a) = .returned (.bool b):=by rw [h]
theorem ret_i64 {a b:Int} (h:a = b):Ending.returned (.int .i64 a) = .returned (.int .i64 b):=by rw [h]
def BRow (w:World) (p:Option Addr) (l:List UInt8):Prop :=
 l ≠ []→∃ b o,p = some ⟨b,o,none⟩∧∀ i,i < l.length→w.cell? ⟨b,o + i,none⟩ = some (.int .u8 ((l.getD i 0).toNat:Int))
def bv (l:List UInt8):List Value:=l.map fun c=>Value.int .u8 (c.toNat:Int)
theorem bv_length (l:List UInt8):(bv l).length = l.length:=by simp [bv]
theorem bv_append (l m:List UInt8):bv (l ++ m) = bv l ++ bv m:=by simp [bv]
theorem info_u8:(Tryz.prog.info? 5).map (fun i=>(i.zero,i.size,i.bytes)) = some (some (.int .u8 0),1,1):=by kernel_rfl
theorem cell_one (w:World) (v:Value) (t:TypeId) {u:Value} (h:v = u):∀ j x,[u][j]? = some x→(w.alloc (.cells #[v] t)).cell? ((⟨w.heap.size,0,none⟩:Addr).add j) = some x:=by
 subst h
 intro j x hj
 match j,hj with
 | 0,hj=>simp at hj;subst hj;simp [Addr.add]
theorem cell_two (w:World) (v v':Value) (t:TypeId):∀ j x,[v,v'][j]? = some x→(w.alloc (.cells #[v,v'] t)).cell? ((⟨w.heap.size,0,none⟩:Addr).add j) = some x:=by
 intro j x hj
 match j,hj with
 | 0,hj=>simp at hj;subst hj;simp [Addr.add]
 | 1,hj=>simp at hj;subst hj;simp [Addr.add]
theorem cell_three (w:World) (v v' v'':Value) (t:TypeId):∀ j x,[v,v',v''][j]? = some x→(w.alloc (.cells #[v,v',v''] t)).cell? ((⟨w.heap.size,0,none⟩:Addr).add j) = some x:=by
 intro j x hj
 match j,hj with
 | 0,hj=>simp at hj;subst hj;simp [Addr.add]
 | 1,hj=>simp at hj;subst hj;simp [Addr.add]
 | 2,hj=>simp at hj;subst hj;simp [Addr.add]
theorem convert_nil (w:World):(convert 22 9 (.slice none 0 0)).run Tryz.prog w = .ok (.string ⟨#[]⟩) w:=by
 rw [run_convert_bytes_string w 22 9 5 none 0 0 Tryz.underlying22 Tryz.underlying5 Tryz.underlying9]
 rfl
def iv (l:List Nat):List Value:=l.map fun (n:Nat)=>Value.int .i64 (n:Int)
theorem info_int:(Tryz.prog.info? 3).map (fun i=>(i.zero,i.size,i.bytes)) = some (some (.int .i64 0),1,8):=by kernel_rfl
theorem one_int {k:IntKind} (n:Int):∀ u ∈ [Value.int k n],u.oneCell' = true:=by
 intro u hu;simp at hu;subst hu;rfl
theorem owned_row {w:World} {B:Nat} {v:Value} {l:List UInt8} (h:w.ownsRow B 5 1 v l.length (bv l)) :
  ∃ p c,v = .slice p l.length c∧l.length≤c∧c≤maxLen∧(p = none→l.length = 0∧c = 0)∧BRow w p l:=by
 rcases h.2 with ⟨rfl,h0⟩ | ⟨g,cap,cur,rfl,hg,hh,hnc,hcp,hcs,htake⟩
 ·refine ⟨none,0,by rw [h0],by omega,by decide,fun _=>⟨h0,rfl⟩,fun hne=>absurd (List.length_eq_zero_iff.1 h0) hne⟩
 ·refine ⟨some ⟨g,0,none⟩,cap,rfl,hnc,hcp,fun e=>(by cases e),fun _=>⟨g,0,rfl,fun i hi=>?_⟩⟩
  rw [Nat.zero_add,h.cellAt i (by omega)]
  simp [bv,hi,List.getD_eq_getElem?_getD]
theorem BRow.below {w w':World} {p:Option Addr} {l:List UInt8} (h:BRow w p l) (hb:Below w.heap.size w w'):BRow w' p l:=by
 intro hne
 obtain ⟨b,o,rfl,hc⟩:=h hne
 refine ⟨b,o,rfl,fun i hi=>?_⟩
 have:=hc i hi
 rw [hb.cell (p:=⟨b,o + i,none⟩) (World.block_lt_of_cell? w _ this)]
 exact this
def IsRow (k:IntKind) (w:World) (a:Option Addr) (len cap:Nat) (zs:List Int):Prop :=
 (a = none∧len = 0∧cap = 0∧zs = []) ∨
 ∃ x,a = some x∧len≤cap∧cap≤maxLen∧zs.length = cap∧(∀ i,i < zs.length→w.cell? (x.add i) = some (.int k (zs.getD i 0)))∧∀ n ∈ zs,(Lit.int k n).wf = true
theorem isRow_bytes {w:World} {a:Option Addr} {len cap:Nat} {zs:List Int} (h:IsRow .u8 w a len cap zs) :
  ∃ L:List UInt8,L.length = len∧len≤cap∧cap≤maxLen∧(a = none→len = 0∧cap = 0)∧BRow w a L:=by
 rcases h with ⟨rfl,rfl,rfl,rfl⟩ | ⟨x,rfl,hl,hm,hz,hcell,hwz⟩
 ·exact ⟨[],rfl,Nat.le_refl _,by decide,fun _=>⟨rfl,rfl⟩,fun h=>absurd rfl h⟩
 ·refine ⟨(zs.take len).map fun z=>UInt8.ofNat z.toNat,by simp;omega,hl,hm,fun e=>(by cases e),fun hne=>?_⟩
  have hpos:0 < len:=by
   rcases Nat.eq_zero_or_pos len with e | e
   ·subst e;exact absurd (by simp) hne
   ·exact e
  obtain ⟨b,o,spot⟩:=x
  have h0:=hcell 0 (by omega)
  have hspot:spot = none:=by simpa [Addr.add] using World.cell?_spot h0
  subst hspot
  refine ⟨b,o,rfl,fun i hi=>?_⟩
  have hi':i < zs.length:=by simp at hi;omega
  have hil:i < len:=by simp at hi;omega
  have hc:=hcell i hi'
  rw [Addr.add_lit] at hc
  rw [hc]
  have hb:=bounds_u8 (hwz _ (List.getElem_mem hi'))
  have e1:zs.getD i 0 = zs[i]:=by simp [List.getD_eq_getElem?_getD,List.getElem?_eq_getElem hi']
  have e2:((zs.take len).map fun z=>UInt8.ofNat z.toNat).getD i 0 = UInt8.ofNat zs[i].toNat:=by
   simp [List.getD_eq_getElem?_getD,hil,List.getElem?_eq_getElem hi']
  rw [e1,e2]
  congr 2
  simp
  omega
theorem BRow.take {w:World} {p:Option Addr} {l:List UInt8} (h:BRow w p l) (m:Nat):BRow w p (l.take m):=by
 intro hne
 obtain ⟨b,o,rfl,hc⟩:=h (fun e=>hne (by rw [e];simp))
 refine ⟨b,o,rfl,fun i hi=>?_⟩
 rw [List.length_take] at hi
 rw [hc i (by omega)]
 simp [List.getD_eq_getElem?_getD,show i < m by omega]
theorem BRow.drop {w:World} {b o:Nat} {l:List UInt8} (hc:∀ i,i < l.length→w.cell? ⟨b,o + i,none⟩ = some (.int .u8 ((l.getD i 0).toNat:Int))) (m:Nat):BRow w (some ⟨b,o + m,none⟩) (l.drop m):=by
 intro hne
 refine ⟨b,o + m,rfl,fun i hi=>?_⟩
 rw [List.length_drop] at hi
 rw [Nat.add_assoc,hc (m + i) (by omega)]
 simp [List.getD_eq_getElem?_getD]
def nums (l:List UInt8):List Int:=l.map fun c=>(c.toNat:Int)
theorem step_append_own {P:Program} {ops:Array Oper} {o:Oper} {a:Act} {w:World} {K:Act→World→Prop} {Q:Exit→Act→World→Prop} {E:Prop}
  (hg:o.guard = none) (s x:Operand) (t:TypeId) (hop:o.op = Op.call { callee:=Callee.builtin Builtin.append,args:=#[s,x],argTypes:=#[t,t] })
  (base:Nat) (e:TypeId) (i:TypeInfo) (z:Value) (size bytes:Nat) (h1:P.underlying t = some (.slice e)) (h2:P.info? e = some i) (h3:i.zero = some z) (h4:i.size = size) (h5:i.bytes = bytes) (h6:z.cells.size = size) (h7:0 < size)
  (v:Value) (n:Nat) (xs:List Value) (hs:a.eval s = v) (hown:w.ownsRow base e size v n xs)
  (ad:Addr) (m c:Nat) (news:List Value) (hx:a.eval x = .slice (some ad) m c) (hn:news.length = m * size) (hc:∀ j u,news[j]? = some u→w.cell? (ad.add j) = some u) (h1c:∀ u ∈ news,u.oneCell' = true)
  (b1:n + m≤maxLen) (b2:(n + m) * bytes≤140737488355328) (hbase:base≤w.heap.size)
  (hK:∀ v' w',w'.ownsRow base e size v' (n + m) (xs ++ news)→w.grownBy w' v.ownBlock→K (a.put o.dst v') w') :
  if Region.wanted o (yielded ops a.tmps) = true then Oper.wp P o a w K Q else E:=by
 have hw:Region.wanted o (yielded ops a.tmps) = true:=by simp [Region.wanted,hg]
 rw [if_pos hw]
 obtain ⟨v',w',hrun,r1,r2,_⟩:=run_append_own (P:=P) w base t o.type e i z size bytes h1 h2 h3 h4 h5 h6 h7 v n xs hown ad m c news hn hc h1c b1 b2 hbase
 unfold Oper.wp
 simp [execOp,hop,resolve,invoke,builtin,hs,hx,hrun,Result.andThen]
 exact hK v' w' r1 r2
theorem ownsRow_below {w w':World} {B e size n:Nat} {v:Value} {xs:List Value} (h:w.ownsRow B e size v n xs) (hb:Below w.heap.size w w'):w'.ownsRow B e size v n xs:=by
 refine ⟨h.1,?_⟩
 rcases h.2 with hn | ⟨g,cap,cur,rfl,hg,hh,rest⟩
 ·exact .inl hn
 ·refine .inr ⟨g,cap,cur,rfl,hg,?_,rest⟩
  rw [hb.block g (Array.getElem?_eq_some_iff.1 hh).1]
  exact hh
def strLen:Value→Nat
 | .string s=>s.size
 | _=>0
end Go.Proofs.YtbbfcbodhmeanaaGreatDoor



namespace Go.Proofs.YtbbfcbodhmeanaaGreatDoor
open Go.RowKit
def PCells (w:World) (b o:Nat) (p:PT) (pb:Option Addr) (cb:Nat) (pk:Option Addr) (ck:Nat):Prop :=
 w.cell? ⟨b,o,none⟩ = some (.string p.ty)∧w.cell? ⟨b,o + 1,none⟩ = some (.string p.cs)∧w.cell? ⟨b,o + 2,none⟩ = some (.string p.id)∧w.cell? ⟨b,o + 3,none⟩ = some (.string p.loc) ∧
 w.cell? ⟨b,o + 4,none⟩ = some (.int .i64 p.how)∧w.cell? ⟨b,o + 5,none⟩ = some (.slice pb p.body.length cb)∧w.cell? ⟨b,o + 6,none⟩ = some (.slice pk p.kids.length ck)
def PLen (p:PT):Prop :=
 p.ty.size≤maxLen∧p.cs.size≤maxLen∧p.id.size≤maxLen∧p.loc.size≤maxLen∧-9223372036854775808≤p.how∧p.how≤9223372036854775807∧p.body.length≤maxLen∧p.kids.length≤maxLen
def PHeldK (K:Option Addr→List PT→Prop) (w:World) (p:PT) (pb:Option Addr) (cb:Nat) (pk:Option Addr) (ck:Nat):Prop :=
 PLen p∧(p.body.length≤cb∧cb≤maxLen∧(pb = none→cb = 0))∧BRow w pb p.body∧(p.kids.length≤ck∧ck≤maxLen∧(pk = none→ck = 0))∧K pk p.kids
def KAt (w:World):Nat→Option Addr→List PT→Prop
 | 0,_,l=>l = []
 | f + 1,a,l=>l ≠ []→∃ b o,a = some ⟨b,o,none⟩∧∀ i,i < l.length→∃ pb cb pk ck,PCells w b (o + i * 7) (l.getD i pt0) pb cb pk ck∧PHeldK (KAt w f) w (l.getD i pt0) pb cb pk ck
def PHeld (w:World) (f:Nat) (p:PT) (pb:Option Addr) (cb:Nat) (pk:Option Addr) (ck:Nat):Prop:=PHeldK (KAt w f) w p pb cb pk ck
def PAt (w:World) (f:Nat) (b o:Nat) (p:PT):Prop:=∃ pb cb pk ck,PCells w b o p pb cb pk ck∧PHeld w f p pb cb pk ck
theorem KAt.each {w:World} {f:Nat} {a:Option Addr} {l:List PT} (h:KAt w (f + 1) a l) (hne:l ≠ []):∃ b o,a = some ⟨b,o,none⟩∧∀ i,i < l.length→PAt w f b (o + i * 7) (l.getD i pt0):=by
 obtain ⟨b,o,e,hc⟩:=h hne
 exact ⟨b,o,e,fun i hi=>hc i hi⟩
theorem KAt.mk {w:World} {f b o:Nat} {l:List PT} (h:∀ i,i < l.length→PAt w f b (o + i * 7) (l.getD i pt0)):KAt w (f + 1) (some ⟨b,o,none⟩) l:=fun _=>⟨b,o,rfl,fun i hi=>h i hi⟩
theorem KAt.nil (w:World) (f:Nat) (a:Option Addr):KAt w f a []:=by
 cases f with
 | zero=>rfl
 | succ f=>exact fun h=>absurd rfl h
theorem BRow.under {w w':World} {p:Option Addr} {l:List UInt8} (h:BRow w p l) (hb:Below w.heap.size w w'):BRow w' p l:=by
 intro hne
 obtain ⟨b,o,rfl,hc⟩:=h hne
 refine ⟨b,o,rfl,fun i hi=>?_⟩
 have:=hc i hi
 rw [hb.cell (p:=⟨b,o + i,none⟩) (World.block_lt_of_cell? w _ this)]
 exact this
theorem PCells.below {w w':World} {b o:Nat} {p:PT} {pb:Option Addr} {cb:Nat} {pk:Option Addr} {ck:Nat} (h:PCells w b o p pb cb pk ck) (hb:Below w.heap.size w w'):PCells w' b o p pb cb pk ck:=by
 obtain ⟨h0,h1,h2,h3,h4,h5,h6⟩:=h
 have hl:=World.block_lt_of_cell? w _ h0
 refine ⟨?_,?_,?_,?_,?_,?_,?_⟩
 ·rw [hb.cell (p:=⟨b,o,none⟩) hl];exact h0
 ·rw [hb.cell (p:=⟨b,o + 1,none⟩) hl];exact h1
 ·rw [hb.cell (p:=⟨b,o + 2,none⟩) hl];exact h2
 ·rw [hb.cell (p:=⟨b,o + 3,none⟩) hl];exact h3
 ·rw [hb.cell (p:=⟨b,o + 4,none⟩) hl];exact h4
 ·rw [hb.cell (p:=⟨b,o + 5,none⟩) hl];exact h5
 ·rw [hb.cell (p:=⟨b,o + 6,none⟩) hl];exact h6
theorem PHeldK.mono {K K':Option Addr→List PT→Prop} {w w':World} {p:PT} {pb:Option Addr} {cb:Nat} {pk:Option Addr} {ck:Nat} (h:PHeldK K w p pb cb pk ck) (hb:Below w.heap.size w w') (hK:∀ a l,K a l→K' a l):PHeldK K' w' p pb cb pk ck :=
 ⟨h.1,h.2.1,h.2.2.1.under hb,h.2.2.2.1,hK _ _ h.2.2.2.2⟩
theorem KAt.below {w w':World} (hb:Below w.heap.size w w'):∀ (f:Nat) (a:Option Addr) (l:List PT),KAt w f a l→KAt w' f a l
 | 0,_,_,h=>h
 | f + 1,a,l,h=>fun hne=>by
  obtain ⟨b,o,e,hc⟩:=h hne
  refine ⟨b,o,e,fun i hi=>?_⟩
  obtain ⟨pb,cb,pk,ck,h1,h2⟩:=hc i hi
  exact ⟨pb,cb,pk,ck,h1.below hb,h2.mono hb (KAt.below hb f)⟩
theorem PHeld.below {w w':World} {f:Nat} {p:PT} {pb:Option Addr} {cb:Nat} {pk:Option Addr} {ck:Nat} (h:PHeld w f p pb cb pk ck) (hb:Below w.heap.size w w'):PHeld w' f p pb cb pk ck:=PHeldK.mono h hb (KAt.below hb f)
theorem PAt.below {w w':World} {f b o:Nat} {p:PT} (h:PAt w f b o p) (hb:Below w.heap.size w w'):PAt w' f b o p:=by
 obtain ⟨pb,cb,pk,ck,h1,h2⟩:=h
 exact ⟨pb,cb,pk,ck,h1.below hb,h2.below hb⟩
theorem PAt.lt {w:World} {f b o:Nat} {p:PT} (h:PAt w f b o p):b < w.heap.size:=by
 obtain ⟨pb,cb,pk,ck,h1,h2⟩:=h
 exact World.block_lt_of_cell? w _ h1.1
end Go.Proofs.YtbbfcbodhmeanaaGreatDoor



namespace Go.Proofs.YtbbfcbodhmeanaaGreatDoor
open Go.RowKit
abbrev PX:=(Nat × Nat) × Int
def plv (X:List PX):List Value:=X.flatMap fun x=>[.pointer (some ⟨x.1.1,x.1.2,none⟩),.int .i64 x.2]
theorem plv_snoc (X:List PX) (x:PX):plv (X ++ [x]) = plv X ++ [.pointer (some ⟨x.1.1,x.1.2,none⟩),.int .i64 x.2]:=by simp [plv]
def PLs (w:World) (X:List PX) (L:List (PT × Int)):Prop :=
 X.length = L.length∧∀ (i:Nat) x q,X[i]? = some x→L[i]? = some q→x.2 = q.2∧∃ f,PAt w f x.1.1 x.1.2 q.1
theorem PLs.nil (w:World):PLs w [] []:=⟨rfl,fun i x q h=>by simp at h⟩
theorem PLs.snoc {w:World} {X:List PX} {L:List (PT × Int)} (h:PLs w X L) {b o:Nat} {p:PT} {k:Int} {f:Nat} (hp:PAt w f b o p):PLs w (X ++ [((b,o),k)]) (L ++ [(p,k)]):=by
 refine ⟨by rw [List.length_append,List.length_append,h.1];rfl,fun i x q hx hq=>?_⟩
 by_cases hi:i < X.length
 ·rw [List.getElem?_append_left hi] at hx
  rw [List.getElem?_append_left (by rw [← h.1];exact hi)] at hq
  exact h.2 i x q hx hq
 ·rw [List.getElem?_append_right (by omega)] at hx
  rw [List.getElem?_append_right (by rw [← h.1];omega),← h.1] at hq
  cases hd:i - X.length with
  | zero =>
   rw [hd] at hx hq
   obtain rfl:=Option.some.inj hx
   obtain rfl:=Option.some.inj hq
   exact ⟨rfl,f,hp⟩
  | succ n=>rw [hd] at hx;simp at hx
theorem info_place:(Tryz.prog.info? 117).map (fun i=>(i.zero,i.size,i.bytes)) = some (some (.agg #[.pointer none,.int .i64 0]),2,16):=by kernel_rfl
theorem owned_slice {w:World} {B e s n:Nat} {v:Value} {xs:List Value} (h:w.ownsRow B e s v n xs):∃ p c,v = .slice p n c:=by
 rcases h.2 with ⟨rfl,rfl⟩ | ⟨g,cap,cur,rfl,_⟩
 ·exact ⟨none,0,rfl⟩
 ·exact ⟨_,_,rfl⟩
def PlacesPost (w0:World) (r:Option (List (PT × Int))) (e:Ending) (w':World):Prop :=
 Below w0.heap.size w0 w'∧match r with
 | none=>e = .returned (.tuple #[.slice none 0 0,.bool false])
 | some M=>∃ v X,e = .returned (.tuple #[v,.bool true])∧w'.ownsRow w0.heap.size 117 2 v M.length (plv X)∧PLs w0 X M
set_option maxHeartbeats 1000000 in
set_option maxRecDepth 100000 in
theorem places_any (w0:World):∀ (f:Nat) (F:Nat) (lv:Value) (X:List PX) (L:List (PT × Int)) (b o:Nat) (p:PT) (depth:Nat) (dd inn:Int) (w:World),f≤3→f + depth = 4→dd = (depth:Int)→L.length≤12 →
  Below w0.heap.size w0 w→w.ownsRow w0.heap.size 117 2 lv L.length (plv X)→PLs w0 X L→PAt w0 F b o p →
  Calls Tryz.prog 128 #[lv,.pointer (some ⟨b,o,none⟩),.int .i64 dd,.int .i64 inn] w fun e w'=>PlacesPost w0 (put (f + 1) L p depth inn) e w':=by
 intro f
 induction f with
 | zero =>
  intro F lv X L b o p depth dd inn w _ hfd hdd hL hbel hown hX hP
  obtain ⟨q,c,rfl⟩:=owned_slice hown
  have HR:Hid (put (0 + 1) L p depth inn = none):=put_stop _ _ _ _ _ (.inr (by omega))
  have h3:(3:Int) < dd:=by omega
  generalize L.length = n at *
  clear hdd hown hX hP
  go_enter Tryz.func128,Tryz.ntmps128
  by_cases h12:n = 12
  ·subst h12
   go_wp2_with fail
   go_ret2
   show PlacesPost _ _ _ _
   rw [HR.out]
   exact ⟨hbel,rfl⟩
  ·have h12':((n:Int) == 12) = false:=by rw [beq_eq_false_iff_ne];omega
   go_wp2_with fail
   go_ret2
   show PlacesPost _ _ _ _
   rw [HR.out]
   exact ⟨hbel,rfl⟩
 | succ f ih =>
  intro F lv X L b o p depth dd inn w hf3 hfd hdd hL hbel hown hX hP
  by_cases h12:L.length = 12
  ·obtain ⟨q,c,rfl⟩:=owned_slice hown
   have HR:Hid (put (f + 1 + 1) L p depth inn = none):=put_stop _ _ _ _ _ (.inl h12)
   rw [h12]
   clear hdd hown hX hP ih h12
   go_enter Tryz.func128,Tryz.ntmps128
   go_wp2_with fail
   go_ret2
   show PlacesPost _ _ _ _
   rw [HR.out]
   exact ⟨hbel,rfl⟩
  ·have HR:Hid (put (f + 1 + 1) L p depth inn = putAll (f + 1) (depth + 1) L.length (L ++ [(p,inn)]) p.kids):=put_go _ _ _ _ _ (by omega)
   obtain ⟨i0,hi,hz0,hz1,hz2⟩:=info_parts info_place
   have hPw:=hP.below hbel
   obtain ⟨pb,cb,pk,ck,hC,hH⟩:=hPw
   obtain ⟨pb',cb',pk',ck',hC',hH'⟩:=hP
   have hsz:=hbel.size
   obtain ⟨q,c,rfl⟩:=owned_slice hown
   have h12':((L.length:Int) == 12) = false:=by rw [beq_eq_false_iff_ne];omega
   have h3:¬ ((3:Int) < dd):=by omega
   have hKl:p.kids.length≤9223372036854775807:=by have:=hH.1.2.2.2.2.2.2.2;unfold maxLen at this;exact this
   have HC:Hid (∀ w',Below w0.heap.size w0 w'→w'.cell? ⟨b,o + 6,none⟩ = some (.slice pk' p.kids.length ck')):=fun w' hb=>(hC'.below hb).2.2.2.2.2.2
   have HK:Hid (p.kids ≠ []→∃ F' b' o',F = F' + 1∧pk' = some ⟨b',o',none⟩∧∀ i,i < p.kids.length→PAt w0 F' b' (o' + i * 7) (p.kids.getD i pt0)):=fun hne=>by
    have hk:KAt w0 F pk' p.kids:=hH'.2.2.2.2
    cases F with
    | zero=>exact absurd hk hne
    | succ F' =>
     obtain ⟨b',o',e1,e2⟩:=hk.each hne
     exact ⟨F',b',o',rfl,e1,e2⟩
   have HX2:Hid (PLs w0 (X ++ [((b,o),inn)]) (L ++ [(p,inn)])):=hX.snoc ⟨pb',cb',pk',ck',hC',hH'⟩
   have IH:Hid (∀ (lv:Value) (X:List PX) (M:List (PT × Int)) (b o F:Nat) (k:PT) (w:World),M.length≤12→Below w0.heap.size w0 w→w.ownsRow w0.heap.size 117 2 lv M.length (plv X)→PLs w0 X M→PAt w0 F b o k →
     Calls Tryz.prog 128 #[lv,.pointer (some ⟨b,o,none⟩),.int .i64 (dd + 1),.int .i64 (L.length:Int)] w fun e w'=>PlacesPost w0 (put (f + 1) M k (depth + 1) (L.length:Int)) e w') :=
    fun lv X M b o F k w h1 h2 h3 h4 h5=>ih F lv X M b o k (depth + 1) (dd + 1) (L.length:Int) w (by omega) (by omega) (by omega) h1 h2 h3 h4 h5
   have hd4:dd≤3:=by omega
   have hd0:0≤dd:=by omega
   have HL12:Hid (L.length < 12):=by unfold Hid;omega
   generalize hRES:put (f + 1 + 1) L p depth inn = RES at *
   clear ih hC hH hC' hH' hX hdd hRES
   go_enter Tryz.func128,Tryz.ntmps128
   go_wp2_with (at_builtin;refine wpList_append_own _ rfl (.tmp 22) (.tmp 26) 113 rfl w0.heap.size 117 i0 (.agg #[.pointer none,.int .i64 0]) 2 16 Tryz.underlying113 hi hz0 hz1 hz2 rfl (by decide) _ _ _ rfl (hown.alloc _) ⟨w.heap.size,0,none⟩ 1 1 [.pointer (some ⟨b,o,none⟩),.int .i64 inn] rfl rfl (cell_two _ _ _ _) ?c2 ?c3 ?c4 ?c5 ?_)
   case c2=>first | exact ⟨rfl,rfl⟩ | (intro u hu;simp at hu;rcases hu with rfl | rfl <;> rfl)
   case c3=>unfold maxLen;omega
   case c4=>omega
   case c5=>first | omega | (simp;omega)
   intro v9 w9 hown9 hg9 _
   have hb9:Below w0.heap.size w0 w9:=(hbel.alloc hsz _).grown hg9 (by simp;omega) (fun j hj=>(hown.lt j hj).1)
   have R9:w9.ownsRow w0.heap.size 117 2 v9 (L ++ [(p,inn)]).length (plv (X ++ [((b,o),inn)])):=by rw [plv_snoc,List.length_append];exact hown9
   have HO:Hid (w9.ownsRow w0.heap.size 117 2 v9 (L ++ [(p,inn)]).length (plv (X ++ [((b,o),inn)]))):=R9
   have HM:Hid ((L ++ [(p,inn)]).length≤12):=by unfold Hid;rw [List.length_append];have:=HL12.out;simp;omega
   have c6:=HC.out w9 hb9
   have hBb:b < w9.heap.size:=World.block_lt_of_cell? w9 _ c6
   clear hg9 hown9 hown R9 hbel hsz hi hz0 hz1 hz2
   obtain ⟨M0,hM0⟩:∃ M0,L ++ [(p,inn)] = M0:=⟨_,rfl⟩
   obtain ⟨X0,hX0⟩:∃ X0,X ++ [((b,o),inn)] = X0:=⟨_,rfl⟩
   rw [hM0] at HR HX2 HO HM
   rw [hX0] at HX2 HO
   clear hM0 hX0 h12 h12' HL12
   obtain ⟨kids,hkids⟩:∃ kids,p.kids = kids:=⟨_,rfl⟩
   rw [hkids] at HR HC HK hKl c6
   clear hkids
   obtain ⟨nk,hnk⟩:∃ nk,kids.length = nk:=⟨_,rfl⟩
   have HNK:Hid (kids.length = nk):=hnk
   rw [hnk] at HC HK hKl c6
   clear hnk
   obtain ⟨own,hownn⟩:∃ own,L.length = own:=⟨_,rfl⟩
   rw [hownn] at HR IH
   simp only [hownn]
   clear hownn
   go_wp2_with fail
   go_loopw [0,33] (fun lvv iv wr=>∃ (k:Nat) (M:List (PT × Int)) (X:List PX) (q:Option Addr) (n c:Nat),k≤nk∧iv = .int .i64 k∧lvv = .slice q n c∧Below w0.heap.size w0 wr∧Hid (wr.ownsRow w0.heap.size 117 2 (.slice q n c) M.length (plv X))∧Hid (PLs w0 X M)∧Hid (M.length≤12)∧Hid (RES = putAll (f + 1) (depth + 1) own M (kids.drop k))) (fun _ iv _=>nk - (intOf iv).toNat)
   case atStart =>
    obtain ⟨q9,c9,rfl⟩:=owned_slice HO.out
    exact ⟨0,M0,X0,q9,M0.length,c9,Nat.zero_le _,rfl,rfl,hb9,HO,HX2,HM,HR⟩
   case round =>
    obtain ⟨k,M,X,q1,n1,c1,hk,rfl,rfl,hbr,HO,HX,HM,HR⟩:=hrel
    have c6r:=HC.out wr hbr
    by_cases hlt:k < nk
    ·have hlz:(k:Int) < (nk:Int):=by omega
     have hne:kids ≠ []:=fun e=>by have:=HNK.out;rw [e] at this;simp at this;omega
     obtain ⟨F',b',o',-,rfl,hPk⟩:=HK.out hne
     have HPk:Hid (PAt w0 F' b' (o' + k * 7) (kids.getD k pt0)):=hPk k hlt
     have hdr:kids.drop k = kids.getD k pt0::kids.drop (k + 1):=by
      have hkl:k < kids.length:=by rw [HNK.out];exact hlt
      rw [List.drop_eq_getElem_cons hkl]
      simp [List.getD_eq_getElem?_getD,List.getElem?_eq_getElem hkl]
     rw [hdr] at HR
     clear hdr hPk HK
     have CI:Hid (Calls Tryz.prog 128 #[.slice q1 n1 c1,.pointer (some ⟨b',o' + k * 7,none⟩),.int .i64 (dd + 1),.int .i64 (own:Int)] wr fun e w'=>PlacesPost w0 (put (f + 1) M (kids.getD k pt0) (depth + 1) (own:Int)) e w'):=IH.out _ X M b' (o' + k * 7) F' _ wr HM.out hbr HO.out HX.out HPk.out
     cases hput:put (f + 1) M (kids.getD k pt0) (depth + 1) (own:Int) with
     | none =>
      have HN:Hid (RES = none):=by unfold Hid;rw [HR.out,putAll_none _ _ _ _ _ _ hput]
      rw [hput] at CI
      clear hput HR HO HX HM HPk IH
      go_wp2_with fail
      refine CI.out.mono ?_
      rintro e w2 ⟨hb2,rfl⟩
      go_wp2_with fail
      go_ret2
      show PlacesPost _ _ _ _
      rw [HN.out]
      exact ⟨hb2,rfl⟩
     | some M2 =>
      have HN:Hid (RES = putAll (f + 1) (depth + 1) own M2 (kids.drop (k + 1))):=by unfold Hid;rw [HR.out,putAll_some _ _ _ _ _ _ _ hput]
      have HM2:Hid (M2.length≤12):=(put_length _ _ _ _ _ _ HM.out hput).2
      rw [hput] at CI
      clear hput HR HO HX HM HPk IH
      go_wp2_with fail
      refine CI.out.mono ?_
      rintro e w2 ⟨hb2,v2,X2,rfl,ho2,hx2⟩
      have HO2:Hid (w2.ownsRow w0.heap.size 117 2 v2 M2.length (plv X2)):=ho2
      have HX2:Hid (PLs w0 X2 M2):=hx2
      clear ho2 hx2 CI
      go_wp2_with fail
      go_roundw
      case rel =>
       obtain ⟨q2,c2,rfl⟩:=owned_slice HO2.out
       exact ⟨k + 1,M2,X2,q2,M2.length,c2,by omega,by go_num,rfl,hb2,HO2,HX2,HM2,HN⟩
      case measure=>simp [intOf];omega
    ·have hlz:¬ ((k:Int) < (nk:Int)):=by omega
     have HN:Hid (RES = some M):=by unfold Hid;rw [HR.out,List.drop_of_length_le (by rw [HNK.out];omega),putAll_nil]
     clear HR HK IH
     go_wp2_with fail
     go_ret2
     show PlacesPost _ _ _ _
     rw [HN.out]
     exact ⟨hbr,_,X,rfl,HO.out,HX.out⟩
end Go.Proofs.YtbbfcbodhmeanaaGreatDoor

