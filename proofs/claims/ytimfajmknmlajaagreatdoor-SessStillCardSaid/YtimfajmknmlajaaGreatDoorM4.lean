/- A part of the proof. No condition. -/
import Derived.Deep.Cut
import Derived.Lib.ConvBytes
import Derived.Deep.DeepCutAuto
import Derived.Deep.CutBlock
import Derived.Deep.RegionHeld3
import Derived.Laws.OwnMore
import Derived.Deep.Slices
import Derived.ChangeSame
import Derived.Carry
import Derived.Deep.RegionWith
import Derived.Test.YtimfajmknmlajaaGreatDoorM1
set_option linter.unusedVariables false
set_option linter.unusedSimpArgs false
set_option maxRecDepth 100000
set_option maxHeartbeats 40000000
namespace Go.Proofs.YtimfajmknmlajaaGreatDoor
open Tryz
namespace P11
open Go.RowKit Kd P4
structure In where
 op:Int
 a:qA
 b:qA
def UB(i:In):Bool:=
 if i.op=1 then P1.JC i.a.data.toList && !P1.dC i.a.data.toList&&P1.yC i.b.data.toList
 else if i.op=3 then P1.dC i.a.data.toList&&P1.yC i.b.data.toList
 else if i.op=4 then P1.yC i.a.data.toList&&i.b.toList.isEmpty
 else if i.op=5\/i.op=6 then P1.JC i.a.data.toList&&P1.yC i.b.data.toList
 else if i.op=2\/i.op=7\/i.op=8 then i.a.toList.isEmpty&&i.b.toList.isEmpty
 else false
theorem Ov:(prog.info? 183).map (fun i=>(i.zero,i.size,i.bytes))=some (some (.agg #[aA 0,oA,oA]),3,40):=by kernel_rfl
def In.cells(i:In):List Value:=[aA i.op,bA i.a,bA i.b]
def kX:Kind prog In where
 t:=119
 e:=183
 size:=3
 bytes:=40
 z:=.agg #[aA 0,oA,oA]
 cs:=In.cells
 ht:=underlying119
 info:=LH Ov
 zH:=rfl
 zG:=by decide
 BH:=by decide
 len:=fun _=>rfl
 one:=fun a u hu=>by simp[In.cells] at hu;rcases hu with rfl|rfl|rfl<;>rfl
theorem kf{w:World}{B:Nat}{A:vA}{l:List In}(h:kX.AA w B A l){k:Nat}(hk:k<l.length):
 ∃b o,A=some (cA b o)/\b<B/\w.cell? ⟨b,o+k*3,none⟩=some (aA l[k].op)/\w.cell? ⟨b,o+k*3+1,none⟩=some (bA l[k].a)/\w.cell? ⟨b,o+k*3+2,none⟩=some (bA l[k].b):=by
 obtain⟨b,o,rfl,d,c⟩:=h.at hk;exact⟨b,o,rfl,d,c 0 _ rfl,c 1 _ rfl,c 2 _ rfl⟩
def XB(w:World)(s:Nat)(i:In):Prop:=w.heap[s]? = some (.cells #[aA i.op,bA i.a,bA i.b] 183 (0,0))
section
variable{w w':World}{s C:Nat}{i:In}
theorem XB.new(w:World)(i:In):XB (w.alloc (.cells #[aA i.op,bA i.a,bA i.b] 183)) w.heap.size i:=heap_alloc_new w _
theorem XB.lt(h:XB w s i):s<w.heap.size:=JA h
theorem XB.below(h:XB w s i)(hb:Below C w w')(hC:s<C):XB w' s i:=(hb.block s hC).trans h
theorem XB.c0(h:XB w s i):w.cell? (cA s 0)=some (aA i.op):=cell_of_row w s 0 _ _ (0,0) h
theorem XB.c1(h:XB w s i):w.cell? (cA s 1)=some (bA i.a):=cell_of_row w s 1 _ _ (0,0) h
theorem XB.c2(h:XB w s i):w.cell? (cA s 2)=some (bA i.b):=cell_of_row w s 2 _ _ (0,0) h
theorem XB.fr(h:XB w s i)(k:Nat):w.frozen? (cA s k)=false:=by simp[World.frozen?,(show w.heap[s]? = _ from h)]
end
theorem int_eq{a b:Int}(h:a=b):(a==b)=true:=by simp[h]
theorem int_ne{a b:Int}(h:¬a=b):(a==b)=false:=by simpa using h
end P11
namespace P12
open Go.RowKit Kd P4 P11
def bs(l:uA):qA:=⟨l.toArray⟩
theorem sH(l:uA):(bs l).data.toList=l:=by simp[bs]
theorem PH(b:qA):bs b.data.toList=b:=by
 apply ByteArray.ext;simp[bs]
theorem NF(l:uA):(bs l).size=l.length:=by show l.toArray.size=_;simp
theorem QH{b:qA}(h:b.toList.isEmpty=true):b=bs []:=by
 rw[ByteArray.toList_eq,List.isEmpty_iff] at h;rw[<-h,PH]
def RF(op:Int):Nat:=if op=1\/op=3\/op=5\/op=6 then 2 else if op=4 then 1 else 0
def lS(s:qA):uA:=UInt8.ofNat s.size:: s.data.toList
def byteOf(op:Int):UInt8:=UInt8.ofNat op.toNat
def lO(i:In):uA:=byteOf i.op:: ((if 0<RF i.op then lS i.a else[])++(if 1<RF i.op then lS i.b else[]))
def gG:uA->Option (uA×uA)
 |[]=>none
 |k:: r=>if r.length<k.toNat then none else some (r.take k.toNat,r.drop k.toNat)
def jE(c:UInt8)(r:uA):Option (In×uA):=
 if RF c.toNat=0 then some (⟨c.toNat,bs [],bs []⟩,r)
 else match gG r with
  |none=>none
  |some (t,r1)=>
   if RF c.toNat=1 then some (⟨c.toNat,bs t,bs []⟩,r1)
   else match gG r1 with
    |none=>none
    |some (u,r2)=>some (⟨c.toNat,bs t,bs u⟩,r2)
def eK:uA->Option (In×uA)
 |[]=>none
 |c:: r=>match jE c r with
  |none=>none
  |some (i,r1)=>if UB i then some (i,r1) else none
def qI:Nat->uA->List In->List In×Nat
 |0,_,acc=>(acc,0)
 |f+1,b,acc=>
  if b=[] then(acc,0)
  else match eK b with
   |none=>([],7)
   |some (i,r)=>if acc.length=120 then([],13) else qI f r (acc++[i])
def fB(b:uA):List In×Nat:=qI (b.length+1) b []
theorem aU{l:uA}(h:P1.JC l=true):l.length<=60:=by
 cases l with
 |nil=>simp
 |cons c r=>
  simp only[P1.JC,Bool.and_eq_true,decide_eq_true_eq] at h;simp;omega
theorem MJ{l:uA}(h:P1.yC l=true):l.length<=60:=by
 simp only[P1.yC,Bool.and_eq_true,decide_eq_true_eq] at h;omega
theorem ki{l:uA}(h:P1.dC l=true):l.length<=60:=by
 simp only[P1.dC,Bool.or_eq_true,beq_iff_eq] at h;rcases h with((rfl|rfl)|rfl)|rfl<;>decide
theorem O0(b:qA):b.data.toList.length=b.size:=by simp
theorem DQ{i:In}(h:UB i=true):i.a.size<=60/\i.b.size<=60/\1<=i.op/\i.op<=8/\(RF i.op=0->i.a=bs []/\i.b=bs [])/\(RF i.op=1->i.b=bs []):=by
 obtain⟨d,a,b⟩:=i;unfold UB at h;simp only at h|-;have m:=O0 a;have n:=O0 b;have c:∀{x:qA},x.toList.isEmpty=true->x.size<=60:=fun {x} hx=>by rw[QH hx,NF];simp
 by_cases j:d=1
 ·subst j;rw[if_pos rfl] at h;simp only[Bool.and_eq_true] at h;have:=aU h.1.1;have:=MJ h.2;refine⟨by omega,by omega,by omega,by omega,fun e=>by simp[RF] at e,fun e=>by simp[RF] at e⟩
 rw[if_neg j] at h;by_cases k:d=3
 ·subst k;rw[if_pos rfl] at h;simp only[Bool.and_eq_true] at h;have:=ki h.1;have:=MJ h.2;refine⟨by omega,by omega,by omega,by omega,fun e=>by simp[RF] at e,fun e=>by simp[RF] at e⟩
 rw[if_neg k] at h;by_cases l:d=4
 ·subst l;rw[if_pos rfl] at h;simp only[Bool.and_eq_true] at h;have:=MJ h.1;have:=c h.2;refine⟨by omega,by omega,by omega,by omega,fun e=>by simp[RF] at e,fun _=>QH h.2⟩
 rw[if_neg l] at h;by_cases f:d=5\/d=6
 ·rw[if_pos f] at h;simp only[Bool.and_eq_true] at h;have:=aU h.1;have:=MJ h.2;refine⟨by omega,by omega,by omega,by omega,fun e=>?_,fun e=>?_⟩
  ·rcases f with rfl|rfl<;>simp[RF] at e
  ·rcases f with rfl|rfl<;>simp[RF] at e
 rw[if_neg f] at h;by_cases g:d=2\/d=7\/d=8
 ·rw[if_pos g] at h;simp only[Bool.and_eq_true] at h;have:=c h.1;have:=c h.2;refine⟨by omega,by omega,by omega,by omega,fun _=>⟨QH h.1,QH h.2⟩,fun e=>?_⟩;rcases g with rfl|rfl|rfl<;>simp[RF] at e
 rw[if_neg g] at h;cases h
theorem dT(op:Int):RF op=0\/RF op=1\/RF op=2:=by
 unfold RF;split
 ·exact .inr (.inr rfl)
 ·split
  ·exact .inr (.inl rfl)
  ·exact .inl rfl
theorem El(i:In):1<=(lO i).length:=by simp[lO]
theorem OJ{b t r:uA}(h:gG b=some (t,r)):b=lS (bs t)++r/\t.length<=255:=by
 cases b with
 |nil=>cases h
 |cons k s=>
  rw[gG] at h;split at h
  ·cases h
  ·injection h with h;injection h with e1 e2;have c:=k.toNat_lt;have a:t.length=k.toNat:=(by rw[<-e1,List.length_take];omega);refine⟨?_,by omega⟩;rw[lS,sH,NF,a,List.cons_append,<-e1,<-e2,List.take_append_drop];simp
theorem Fl{b:uA}{i:In}{r:uA}(h:eK b=some (i,r)):b=lO i++r/\UB i=true:=by
 cases b with
 |nil=>cases h
 |cons c s=>
  rw[eK] at h;have a:∀n:Nat,n=c.toNat->byteOf (n:Int)=c:=fun n g=>by subst g;unfold byteOf;simp
  cases hc:jE c s with
  |none=>rw[hc] at h;cases h
  |some p=>
   obtain⟨j,m⟩:=p;rw[hc] at h;simp only at h;split at h
   ·rename_i hm;injection h with h;injection h with e1 e2;subst e1;subst e2;refine⟨?_,hm⟩;unfold jE at hc;split at hc
    ·rename_i e;injection hc with hc;injection hc with e1 e2;subst e2;rw[<-e1,lO];simp only;rw[e,if_neg pA,if_neg pA,a _ rfl];rfl
    ·rename_i e0;cases h1:gG s with
     |none=>rw[h1] at hc;cases hc
     |some q=>
      obtain⟨t,k⟩:=q;rw[h1] at hc;simp only at hc;obtain⟨f,_⟩:=OJ h1;split at hc
      ·rename_i e;injection hc with hc;injection hc with e1 e2;subst e2;rw[<-e1,lO];simp only;rw[e,if_pos pA,if_neg pA,a _ rfl,List.append_nil,List.cons_append,<-f]
      ·rename_i e1';have d:RF (c.toNat:Int)=2:=by
        rcases dT (c.toNat:Int) with e|e|e
        ·exact absurd e e0
        ·exact absurd e e1'
        ·exact e
       cases h2:gG k with
       |none=>rw[h2] at hc;cases hc
       |some q2=>
        obtain⟨u,o⟩:=q2;rw[h2] at hc;simp only at hc;obtain⟨l,_⟩:=OJ h2;injection hc with hc;injection hc with e1 e2;subst e2;rw[<-e1,lO];simp only;rw[d,if_pos pA,if_pos pA,a _ rfl,List.cons_append,List.append_assoc,<-l,<-f]
   ·cases h
theorem jw:(prog.info? 5).map (fun i=>(i.zero,i.size,i.bytes))=some (some (.int .u8 0),1,1):=by kernel_rfl
def kB:Kind prog UInt8 where
 t:=33
 e:=5
 size:=1
 bytes:=1
 z:=.int .u8 0
 cs:=fun c=>[.int .u8 (c.toNat:Int)]
 ht:=underlying33
 info:=LH jw
 zH:=rfl
 zG:=by decide
 BH:=by decide
 len:=fun _=>rfl
 one:=fun a u hu=>by simp at hu;subst hu;rfl
theorem ud(l:uA)(j:Nat):(kB.cells l)[j]? = (l[j]?).map (fun c=>Value.int .u8 (c.toNat:Int)):=by
 induction l generalizing j with
 |nil=>simp[Kind.cells]
 |cons a l ih=>
  show((.int .u8 (a.toNat:Int)):: kB.cells l)[j]? = _;cases j with
  |zero=>rfl
  |succ j=>simpa using ih j
def zX:In:=⟨0,⟨#[]⟩,⟨#[]⟩⟩
theorem pI{w wr:World}{v0 v1 v2:Value}(hb:fA w wr):fA w (((wr.setCell ⟨w.heap.size,0,none⟩ v0).setCell ⟨w.heap.size,1,none⟩ v1).setCell ⟨w.heap.size,2,none⟩ v2):=
 ((hb.setCell (p:=⟨w.heap.size,0,none⟩) Zl _).setCell (p:=⟨w.heap.size,1,none⟩) Zl _).setCell (p:=⟨w.heap.size,2,none⟩) Zl _
theorem mb{w:World}{b o n cap:Nat}{l t:uA}{C:Nat}(h:kB.AA w C (some (cA b o)) l)(p:Nat)(ht:t.length=n)(hl:(l.drop p).take n=t):(convert 33 9 (.slice (some ⟨b,o+p,none⟩) n cap)).run prog w= .ok (bA (bs t)) w:=by
 subst ht;refine(run_convert_bytes_back (P:=prog) w _ _ 5 ⟨b,o+p,none⟩ cap t underlying33 underlying5 underlying9 (fun j c=>?_)).trans rfl;have e:l[p+j]? = some t[j]:=by
  have d:((l.drop p).take t.length)[j]? = t[j]?:=(by rw[hl]);rw[List.getElem?_take,if_pos c,List.getElem?_drop] at d;rw[d,List.getElem?_eq_getElem c]
 obtain⟨g,i,a,_,f⟩:=h (p+j) _ (by rw[ud,e];rfl);injection a with a;injection a with e1 e2;subst e1;subst e2;rw[show(⟨b,o+p,none⟩:Addr).add j=⟨b,o+(p+j),none⟩ by
  unfold Addr.add;split
  ·rename_i e;subst e;rfl
  ·rw[Nat.add_assoc]]
 exact f
theorem EZ{w:World}{C:Nat}{A:vA}{l:uA}(h:kB.AA w C A l){k:Nat}(hk:k<l.length):∃b o,A=some (cA b o)/\b<C/\w.cell? ⟨b,o+k,none⟩=some (.int .u8 (l[k].toNat:Int)):=by
 obtain⟨b,o,a,c,d⟩:=h k _ (by rw[ud,List.getElem?_eq_getElem hk];rfl);exact⟨b,o,a,c,d⟩
theorem lM{l:uA}{p:Nat}(h:p<l.length):gG (l.drop p)=if l.length<p+1+l[p].toNat then none else some ((l.drop (p+1)).take l[p].toNat,l.drop (p+1+l[p].toNat)):=by
 rw[List.drop_eq_getElem_cons h,gG,List.length_drop,List.drop_drop];by_cases a:l.length<p+1+l[p].toNat
 ·rw[if_pos dA,if_pos a]
 ·rw[if_neg dA,if_neg a]
def sW(w:World)(b0:uA)(s0 s4:Value)(wr:World):Prop:=∃(A:vA) (n c:Nat) (x:uA) (A':vA) (n' c':Nat) (acc:List In) (f:Nat),s0= .slice A n c/\s4= .slice A' n' c'/\x.length=n/\n<=c/\c<=maxLen/\n<=100000/\n<f/\acc.length<=120/\
 Hid (fB b0=qI f x acc)/\Hid (kB.AA w w.heap.size A x)/\Hid (kX.Own wr w.heap.size (.slice A' n' c') acc)/\Hid (fA w wr)
theorem Tn{w:World}{B:Nat}{A:vA}{n c:Nat}{l:List In}(h:kX.Own w B (.slice A n c) l):l.length=n:=by
 obtain⟨d,e,f,a,b,g,i,j,k⟩:=h.slice;injection a with h1 h2 h3;rw[b,<-h2]
end P12
namespace P13
open Go.RowKit Kd P4 P11 P12
def bD(op:Int):Bool:=decide (op=5\/op=6)
def FE(op:Int):Bool:=decide (op=1\/op=3)
def rJ(k:Nat)(o:List Int)(x:In):List Int:=if x.op=1 then o++[(k:Int)+1] else if x.op=2 then o.dropLast else o
def IC(l:List In):Nat->List Int
 |0=>[]
 |k+1=>match l[k]? with
  |some x=>rJ k (IC l k) x
  |none=>IC l k
def JI(l:List In)(k:Nat):Int×Nat:=match (IC l k).getLast? with
 |none=>(0,0)
 |some p=>(p,(IC l k).length)
def fM(op:Int):Int:=if op=1 then 1 else if op=2 then -1 else 0
def VK(s:List In×Int)(x:In):List In×Int:=(if s.2=0/\x.op≠2 then s.1++[x] else s.1,s.2+fM x.op)
def rP(l:List In)(k:Nat):List In:=(((l.take k).drop (JI l k).1.toNat).foldl VK ([],0)).1
def mS(l:List In)(a:uA):Nat->Nat->Nat
 |0,_=>9
 |k+1,n=>match l[k]? with
  |none=>9
  |some y=>if bD y.op then(if y.a.toList=a then 9 else mS l a k (n+1)) else if 8<=n then 9 else if FE y.op then 0 else 9
def vS(x y:In):Bool:=FE y.op&&(y.b.toList==x.b.toList)
def rR(l:List In)(k:Nat)(x:In):Nat:=
 if UB x=false then 7
 else if bD x.op then mS l x.a.toList k 0
 else if x.op=2 then(if(JI l k).2=0 then 8 else 0)
 else if(rP l k).any (fun y=>decide (y.op=7)) then 11
 else if FE x.op && !x.b.toList.isEmpty&&(rP l k).any (vS x) then 10
 else if x.op=1/\8<=(JI l k).2 then 12
 else 0
def RH(l:List In)(k:Nat):Nat:=match l[k]? with
 |none=>0
 |some x=>rR l k x
def zD(l:List In):Nat->Nat
 |0=>0
 |k+1=>if zD l k=0 then RH l k else zD l k
def WD(l:List In):Nat:=
 if 120<l.length then 13
 else if zD l l.length=0 then(if 0<(JI l l.length).2 then 8 else 0)
 else zD l l.length
theorem zO{l:List In}{k:Nat}(h:k<l.length):IC l (k+1)=rJ k (IC l k) l[k]:=by
 rw[IC,List.getElem?_eq_getElem h]
theorem RY(l:List In):∀k,∀p∈IC l k,1<=p/\p<=(k:Int)
 |0=>by simp[IC]
 |k+1=>by
  have ih:=RY l k;intro p hp;rw[IC] at hp;have key:∀q∈IC l k,1<=q/\q<=((k+1:Nat):Int):=fun q hq=>by have:=ih q hq;omega
  split at hp
  ·unfold rJ at hp;split at hp
   ·rcases List.mem_append.1 hp with h|h
    ·exact key p h
    ·rw[List.mem_singleton] at h;omega
   ·split at hp
    ·exact key p (List.dropLast_subset _ hp)
    ·exact key p hp
  ·exact key p hp
theorem rX{l:List In}{k:Nat}(h:(IC l k).length=0):JI l k=(0,0):=by
 rw[JI,List.eq_nil_of_length_eq_zero h];rfl
theorem sX{l:List In}{k m:Nat}(hm:m<(IC l k).length)(h:(IC l k).length=m+1):JI l k=((IC l k)[m],m+1):=by
 have a:(IC l k)[(IC l k).length-1]? = some ((IC l k)[m]):=by
  rw[show(IC l k).length-1=m by omega];exact List.getElem?_eq_getElem hm
 rw[JI,List.getLast?_eq_getElem?,a];simp only[h]
theorem uQ(l:List In)(k:Nat):(JI l k).2=(IC l k).length:=by
 rcases Nat.eq_zero_or_pos (IC l k).length with h|h
 ·rw[rX h,h]
 ·obtain⟨m,a⟩:∃m,(IC l k).length=m+1:=⟨(IC l k).length-1,by omega⟩;rw[sX dA a];simp only[a]
theorem eT{l:List In}{k:Nat}(h:zD l k≠0):∀j,zD l (k+j)=zD l k
 |0=>rfl
 |j+1=>by
  rw[<-Nat.add_assoc,zD,if_neg (by rw[eT h j];exact h),eT h j]
theorem mi{l:List In}{k:Nat}(h:zD l k=0)(hw:RH l k≠0)(hk:k<l.length):zD l l.length=RH l k:=by
 have a:zD l (k+1)=RH l k:=(by rw[zD,if_pos h]);have b:=eT (l:=l) (k:=k+1) (by rw[a];exact hw) (l.length-(k+1));rw[show k+1+(l.length-(k+1))=l.length by omega] at b;rw[b,a]
def NI(s:Option (List (uA)))(x:In):Option (List (uA)):=
 if FE x.op then some [] else if bD x.op then s.map (· ++ [x.a.toList]) else none
def NG(l:List In):Nat->Option (List (uA))
 |0=>none
 |k+1=>match l[k]? with
  |some x=>NI (NG l k) x
  |none=>NG l k
def QI(s:Option (List (uA)))(a:uA)(n:Nat):Nat:=match s with
 |none=>9
 |some ns=>if a∈ns\/8<=n+ns.length then 9 else 0
theorem bX{op:Int}(h:FE op=true):bD op=false:=by
 simp only[FE,bD,decide_eq_true_eq,decide_eq_false_iff_not] at h|-;omega
theorem lT{s:Option (List (uA))}{x:In}(h:FE x.op=true):NI s x=some []:=by rw[NI,if_pos h]
theorem mT{s:Option (List (uA))}{x:In}(h:bD x.op=true):NI s x=s.map (· ++ [x.a.toList]):=by
 rw[NI,if_neg (fun e=>by rw[bX e] at h;cases h),if_pos h]
theorem nT{s:Option (List (uA))}{x:In}(h:FE x.op=false)(h':bD x.op=false):NI s x=none:=by
 rw[NI,if_neg (by rw[h];decide),if_neg (by rw[h'];decide)]
theorem RM(ns:List (uA))(a:uA)(n:Nat):QI (some ns) a n=if a∈ns\/8<=n+ns.length then 9 else 0:=rfl
theorem vQ(a:uA)(n:Nat):QI none a n=9:=rfl
theorem oT(l:List In)(a:uA):∀(k n:Nat),k<=l.length->mS l a k n=QI (NG l k) a n
 |0,n,_=>rfl
 |k+1,n,h=>by
  have hk:k<l.length:=dA;have ih:=oT l a k;rw[mS,NG,List.getElem?_eq_getElem hk];simp only;generalize l[k]=x;by_cases hm:FE x.op=true
  ·rw[bX hm,lT hm,RM,if_neg pA,hm];by_cases h8:8<=n
   ·rw[if_pos h8,if_pos (.inr (by simpa using h8))]
   ·rw[if_neg h8,if_pos rfl,if_neg (by simpa using h8)]
  ·by_cases ht:bD x.op=true
   ·rw[if_pos ht,ih (n+1) dA,mT ht];cases NG l k with
    |none=>
     rw[Option.map_none,vQ,vQ];split<;>rfl
    |some ns=>
     rw[Option.map_some,RM,RM];simp only[List.mem_append,List.mem_singleton,List.length_append,List.length_singleton];by_cases ha:x.a.toList=a
     ·rw[if_pos ha,if_pos (.inl (.inr ha.symm))]
     ·have e:¬a=x.a.toList:=fun e=>ha e.symm
      rw[if_neg ha];by_cases hn:a∈ns
      ·rw[if_pos (.inl hn),if_pos (.inl (.inl hn))]
      ·by_cases h8:8<=n+1+ns.length
       ·rw[if_pos (.inr h8),if_pos (.inr dA)]
       ·rw[if_neg (fun o=>o.elim hn h8),if_neg (fun o=>o.elim (fun o=>o.elim hn e) (fun h=>h8 dA))]
   ·have ht:bD x.op=false:=(by simpa using ht);have hm:FE x.op=false:=(by simpa using hm);rw[nT hm ht,vQ,ht,hm];by_cases h8:8<=n<;>simp[h8]
def wG(s:List (List In))(x:In):List (List In):=
 if x.op=1 then s.dropLast++[(s.getLast?.getD [])++[x],[]] else if x.op=2 then s.dropLast else s.dropLast++[(s.getLast?.getD [])++[x]]
def eE(l:List In):Nat->List (List In)
 |0=>[[]]
 |k+1=>match l[k]? with
  |some x=>wG (eE l k) x
  |none=>eE l k
theorem gX{l:List In}{k:Nat}(h:k<l.length):eE l (k+1)=wG (eE l k) l[k]:=by
 rw[eE,List.getElem?_eq_getElem h]
theorem qQ{l:List In}{k:Nat}(h:k<l.length):NG l (k+1)=NI (NG l k) l[k]:=by
 rw[NG,List.getElem?_eq_getElem h]
def oG(l:List In)(k t:Nat):Int:=if t=0 then 0 else(IC l k).getD (t-1) 0
theorem kq(l:List In)(k t:Nat):0<=oG l k t/\oG l k t<=k:=by
 unfold oG;split
 ·omega
 ·rw[List.getD_eq_getElem?_getD];cases h:(IC l k)[t-1]? with
  |none=>simp
  |some p=>
   obtain⟨a,b⟩:=List.getElem?_eq_some_iff.1 h;have:=RY l k p (b▸List.getElem_mem a);simp only[Option.getD_some];omega
def RI(l:List In)(k:Nat)(p:Int):List In×Int:=((l.take k).drop p.toNat).foldl VK ([],0)
theorem Ag{l:List In}{k:Nat}(h:k<l.length){p:Int}(hp:p<=k):RI l (k+1) p=VK (RI l k p) l[k]:=by
 unfold RI;rw[List.take_add_one,List.getElem?_eq_getElem h,Option.toList_some,List.drop_append_of_le_length (by rw[List.length_take];omega),List.foldl_append];rfl
structure fQ(l:List In)(k:Nat):Prop where
 len:(eE l k).length=(IC l k).length+1
 at_:∀t (h:t<(eE l k).length),RI l k (oG l k t)=((eE l k)[t],((IC l k).length:Int)-t)
theorem Gl(l:List In):fQ l 0:=⟨rfl,fun t h=>by
 simp only[eE,List.length_singleton] at h;obtain rfl:t=0:=dA
 simp[RI,eE,IC]⟩
theorem pT{s:List (List In)}{d:Nat}(hd:d<s.length)(h:s.length=d+1):s.getLast?.getD []=s[d]:=by
 have e:s[s.length-1]? = some s[d]:=by
  rw[show s.length-1=d by omega];exact List.getElem?_eq_getElem hd
 rw[List.getLast?_eq_getElem?,e];rfl
theorem Hl{l:List In}{k:Nat}(hk:k<l.length)(h:fQ l k)(hc:l[k].op=2->0<(IC l k).length):fQ l (k+1):=by
 have w:=gX hk;have y:=zO hk;have u:∀t,RI l (k+1) (oG l k t)=VK (RI l k (oG l k t)) l[k]:=fun t=>Ag hk (kq l k t).2
 obtain⟨d,q⟩:=DA ((IC l k).length);have z:=h.len;have i:=h.at_;rw[q] at z i hc;have j:=pT (s:=eE l k) (d:=d) dA z;generalize l[k]=x at w y u hc;have a:(eE l k).dropLast.length=d:=(by rw[List.length_dropLast,z];omega);have p:∀t (c:t<(eE l k).dropLast.length),(eE l k).dropLast[t]=(eE l k)[t]'(by rw[List.length_dropLast] at c;omega):=fun t c=>List.getElem_dropLast c
 by_cases c:x.op=1
 ·have b:eE l (k+1)=(eE l k).dropLast++[(eE l k)[d]'dA++[x],[]]:=(by rw[w,wG,if_pos c,j]);have g:IC l (k+1)=IC l k++[(k:Int)+1]:=(by rw[y,rJ,if_pos c]);have r:fM x.op=1:=(by rw[fM,if_pos c]);have f:∀t,t<=d->oG l (k+1) t=oG l k t:=fun t o=>by
   unfold oG;split
   ·rfl
   ·rw[g,List.getD_eq_getElem?_getD,List.getD_eq_getElem?_getD,List.getElem?_append_left dA]
  refine⟨by rw[b,g];simp[a,q],fun t o=>?_⟩;have v:t<d+2:=(by rw[b] at o;simpa[a] using o);have m:((IC l (k+1)).length:Int)=d+1:=(by rw[g];simp[q]);rw[m];by_cases A:t<d
  ·rw[f t dA,u,i t dA,VK,r];simp only;rw[if_neg dA];congr 1
   ·rw[List.getElem_of_eq b,List.getElem_append_left dA,p]
   ·omega
  ·by_cases B:t=d
   ·subst B;rw[f t dA,u,i t dA,VK,r];simp only;rw[if_pos ⟨by omega,by omega⟩];congr 1
    ·rw[List.getElem_of_eq b,List.getElem_append_right dA];simp[a]
    ·omega
   ·obtain rfl:t=d+1:=dA
    have e:oG l (k+1) (d+1)=(k:Int)+1:=by
     unfold oG;rw[if_neg dA,g,List.getD_eq_getElem?_getD,Nat.add_sub_cancel,List.getElem?_append_right dA];simp[q]
    rw[e];have C:RI l (k+1) ((k:Int)+1)=([],0):=by
     unfold RI;rw[List.drop_of_length_le (by rw[List.length_take];omega)];rfl
    rw[C];congr 1
    ·rw[List.getElem_of_eq b,List.getElem_append_right dA];simp[a]
    ·omega
 ·by_cases n:x.op=2
  ·have D:=hc n;have b:eE l (k+1)=(eE l k).dropLast:=(by rw[w,wG,if_neg c,if_pos n]);have g:IC l (k+1)=(IC l k).dropLast:=(by rw[y,rJ,if_neg c,if_pos n]);have r:fM x.op = -1:=(by rw[fM,if_neg c,if_pos n]);refine⟨by rw[b,g,a,List.length_dropLast];omega,fun t o=>?_⟩;have v:t<d:=(by rw[b] at o;omega);have m:((IC l (k+1)).length:Int)=d-1:=(by rw[g,List.length_dropLast];omega);have f:oG l (k+1) t=oG l k t:=by
    unfold oG;split
    ·rfl
    ·rw[g,List.getD_eq_getElem?_getD,List.getD_eq_getElem?_getD,List.dropLast_eq_take,List.getElem?_take,if_pos dA]
   rw[m,f,u,i t dA,VK,r];simp only;rw[if_neg (by rintro⟨_,e⟩;exact e n)];congr 1
   ·rw[List.getElem_of_eq b,p]
   ·omega
  ·have b:eE l (k+1)=(eE l k).dropLast++[(eE l k)[d]'dA++[x]]:=(by rw[w,wG,if_neg c,if_neg n,j]);have g:IC l (k+1)=IC l k:=(by rw[y,rJ,if_neg c,if_neg n]);have r:fM x.op=0:=(by rw[fM,if_neg c,if_neg n]);have f:∀t,oG l (k+1) t=oG l k t:=fun t=>by unfold oG;rw[g]
   refine⟨by rw[b,g];simp[a,q],fun t o=>?_⟩;have v:t<d+1:=(by rw[b] at o;simpa[a] using o);rw[g,q,f t,u,i t dA,VK,r];simp only;by_cases A:t<d
   ·rw[if_neg dA];congr 1
    ·rw[List.getElem_of_eq b,List.getElem_append_left dA,p]
    ·omega
   ·obtain rfl:t=d:=dA
    rw[if_pos ⟨by omega,n⟩];congr 1
    ·rw[List.getElem_of_eq b,List.getElem_append_right dA];simp[a]
    ·omega
theorem WR{l:List In}:∀{k:Nat},k<=l.length->zD l k=0->fQ l k
 |0,_,_=>Gl l
 |k+1,hk,hf=>by
  have hkl:k<l.length:=dA;have h0:zD l k=0:=by
   rw[zD] at hf;split at hf
   ·assumption
   ·exact hf
  have hw:RH l k=0:=(by rw[zD,if_pos h0] at hf;exact hf);refine Hl hkl (WR dA h0) (fun h2=>?_);rw[RH,List.getElem?_eq_getElem hkl] at hw;simp only[rR] at hw;have ht:bD l[k].op=false:=(by simp[bD,h2]);rw[ht,if_neg (by decide:¬(false=true)),if_pos h2] at hw;split at hw
  ·cases hw
  ·split at hw
   ·cases hw
   ·rename_i h;rw[uQ] at h;omega
def DF(s:List (List In)):List In:=s.getLast?.getD []
theorem Oe{l:List In}{k:Nat}(h:fQ l k):rP l k=DF (eE l k):=by
 obtain⟨d,b⟩:=DA ((IC l k).length);have c:=h.len;rw[b] at c;have a:=h.at_ d dA;rw[DF,pT (s:=eE l k) (d:=d) dA c];have e:(JI l k).1=oG l k d:=by
  unfold oG;rcases Nat.eq_zero_or_pos d with e|e
  ·rw[if_pos e,rX dA]
  ·obtain⟨m,rfl⟩:∃m,d=m+1:=⟨d-1,by omega⟩;rw[if_neg dA,sX dA b,Nat.add_sub_cancel,List.getD_eq_getElem?_getD,List.getElem?_eq_getElem dA];rfl
 have f:rP l k=(RI l k (oG l k d)).1:=(by rw[rP,RI,e]);rw[f,a]
def mJ(places:List (List In))(names:Option (List (uA)))(x:In):Nat:=
 if UB x=false then 7
 else if bD x.op then QI names x.a.toList 0
 else if x.op=2 then(if places.length<=1 then 8 else 0)
 else if(DF places).any (fun y=>decide (y.op=7)) then 11
 else if FE x.op && !x.b.toList.isEmpty&&(DF places).any (vS x) then 10
 else if x.op=1/\9<=places.length then 12
 else 0
theorem iX{l:List In}{k:Nat}(hk:k<l.length)(hf:zD l k=0):RH l k=mJ (eE l k) (NG l k) l[k]:=by
 have a:=WR dA hf;have b:=a.len;rw[RH,List.getElem?_eq_getElem hk];simp only[rR,mJ];rw[oT l _ k 0 dA,Oe a,uQ,b];have c:((IC l k).length=0)=((IC l k).length+1<=1):=(by simp only[eq_iff_iff];omega);have d:(8<=(IC l k).length)=(9<=(IC l k).length+1):=(by simp only[eq_iff_iff];omega);simp only[c,d]
end P13
namespace P12
open Go.RowKit Kd P4 P11
end P12
namespace P14
open Go.RowKit Kd P4 P5 P11 P12 P13
inductive PW where
 |mk (kind:Int) (tag key txt:qA) (attrs:List P3.At) (kids:List PW)
inductive WV where
 |mk (kind:Int) (tag key txt:qA) (sa:Sv) (attrs:List P3.At) (sk:Sv) (kids:List WV)
theorem PW.ind{Q:PW->Prop}(h:∀kind tag key txt attrs kids,(∀k∈kids,Q k)->Q (.mk kind tag key txt attrs kids))(t:PW):Q t:=
 PW.rec (motive_1:=Q) (motive_2:=fun l=>∀k∈l,Q k) (fun a b c d e f ih=>h a b c d e f ih) (fun _ g=>by cases g) (fun a l i j k g=>by
  rcases List.mem_cons.1 g with rfl|g
  ·exact i
  ·exact j k g) t
theorem WV.ind{Q:WV->Prop}(h:∀kind tag key txt sa attrs sk kids,(∀k∈kids,Q k)->Q (.mk kind tag key txt sa attrs sk kids))(t:WV):Q t:=
 WV.rec (motive_1:=Q) (motive_2:=fun l=>∀k∈l,Q k) (fun a b c d e f g i ih=>h a b c d e f g i ih) (fun _ j=>by cases j) (fun a l m n k j=>by
  rcases List.mem_cons.1 j with rfl|j
  ·exact m
  ·exact n k j) t
namespace WV
def kind:WV->Int| .mk a _ _ _ _ _ _ _=>a
def tag:WV->qA| .mk _ a _ _ _ _ _ _=>a
def key:WV->qA| .mk _ _ a _ _ _ _ _=>a
def txt:WV->qA| .mk _ _ _ a _ _ _ _=>a
def sa:WV->Sv| .mk _ _ _ _ a _ _ _=>a
def attrs:WV->List P3.At| .mk _ _ _ _ _ a _ _=>a
def sk:WV->Sv| .mk _ _ _ _ _ _ a _=>a
def kids:WV->List WV| .mk _ _ _ _ _ _ _ a=>a
end WV
namespace PW
def kind:PW->Int| .mk a _ _ _ _ _=>a
def tag:PW->qA| .mk _ a _ _ _ _=>a
def key:PW->qA| .mk _ _ a _ _ _=>a
def txt:PW->qA| .mk _ _ _ a _ _=>a
def attrs:PW->List P3.At| .mk _ _ _ _ a _=>a
def kids:PW->List PW| .mk _ _ _ _ _ a=>a
end PW
mutual
def er:WV->PW
 | .mk kind tag key txt _ attrs _ kids=> .mk kind tag key txt attrs (yA kids)
def yA:List WV->List PW
 |[]=>[]
 |a:: l=>er a:: yA l
end
theorem nC:∀l:List WV,yA l=l.map er
 |[]=>by simp[yA]
 |a:: l=>by simp[yA,nC l]
theorem DT(l m:List WV):yA (l++m)=yA l++yA m:=by simp[nC]
theorem LK{l:List WV}{k:Nat}(h:k<l.length)(h':k<(yA l).length):(yA l)[k]=er l[k]:=by simp[nC]
theorem aF(t:WV):er t= .mk t.kind t.tag t.key t.txt t.attrs (yA t.kids):=by cases t;rw[er];rfl
mutual
def pG:PW->Nat
 | .mk kind _ _ _ _ kids=>if kind=2 then 1 else if kind=1 then 1+xB kids else 0
def xB:List PW->Nat
 |[]=>0
 |a:: l=>pG a+xB l
end
mutual
def pF:PW->Nat
 | .mk _ _ _ _ attrs kids=>1+attrs.length+cD kids
def cD:List PW->Nat
 |[]=>0
 |a:: l=>pF a+cD l
end
theorem yq(t:PW):1<=pF t:=by cases t;rw[pF];omega
theorem VX:∀l m:List PW,cD (l++m)=cD l+cD m
 |[],m=>by simp[cD]
 |a:: l,m=>by simp[cD,VX l m];omega
theorem uR:∀l:List PW,l.length<=cD l
 |[]=>by simp[cD]
 |a:: l=>by have:=uR l;have:=yq a;simp[cD];omega
theorem XU:∀{l:List PW} {t:PW},t∈l->pF t<=cD l
 |a:: l,t,h=>by
  rw[cD];rcases List.mem_cons.1 h with rfl|h
  ·omega
  ·have:=XU h;omega
theorem tX:∀l m:List PW,xB (l++m)=xB l+xB m
 |[],m=>by simp[xB]
 |a:: l,m=>by simp[xB,tX l m];omega
theorem dU{l:List PW}{k:Nat}(h:k<l.length):xB (l.take (k+1))=xB (l.take k)+pG l[k]:=by
 rw[List.take_add_one,List.getElem?_eq_getElem h,tX];simp[xB]
theorem qu(t:PW):pG t<=pF t:=by
 induction t using PW.ind with
 |h kind tag key txt attrs kids ih=>
  have:∀l:List PW,(∀k∈l,pG k<=pF k)->xB l<=cD l:=by
   intro l
   induction l with
   |nil=>intro _;simp[xB]
   |cons a l ih2=>
    intro h;have c:=h a FA;have d:=ih2 (fun k b=>h k (by simp[b]));rw[xB,cD];omega
  have:=this kids ih;rw[pG,pF];split
  ·omega
  ·split<;>omega
theorem ua:∀l:List PW,xB l<=cD l
 |[]=>by simp[xB]
 |a:: l=>by have:=ua l;have:=qu a;rw[xB,cD];omega
def bq(a b:qA):Bool:=a.toList==b.toList
def z0:qA:=bs []
def vE(a:P3.At):In:=⟨if a.st then 6 else 5,a.nm,a.vl⟩
def yM(x:In):P3.At:=⟨x.a,x.b,decide (x.op=6)⟩
theorem Nl{x:In}(h:bD x.op=true):vE (yM x)=x:=by
 obtain⟨c,a,b⟩:=x;simp only[bD,decide_eq_true_eq] at h;rcases h with rfl|rfl<;>simp[vE,yM]
mutual
def PD:PW->List In
 | .mk kind tag key txt attrs kids=>
   if kind=1 then(if P1.dC tag.data.toList then⟨3,tag,key⟩:: attrs.map vE else⟨1,tag,key⟩:: (attrs.map vE++(sD kids++[⟨2,z0,z0⟩])))
   else if kind=2 then[⟨4,txt,z0⟩] else if kind=3 then[⟨8,z0,z0⟩] else if kind=4 then[⟨7,z0,z0⟩] else[]
def sD:List PW->List In
 |[]=>[]
 |a:: l=>PD a++sD l
end
theorem lQ:∀l m:List PW,sD (l++m)=sD l++sD m
 |[],m=>by simp[sD]
 |a:: l,m=>by simp[sD,lQ l m]
theorem eU(a:PW):sD [a]=PD a:=by simp[sD]
inductive tC:PW->Prop
 |el {tag key:qA} {attrs:List P3.At} {kids:List PW} (hm:UB ⟨1,tag,key⟩=true) (ha:∀a∈attrs,UB (vE a)=true) (hk:∀k∈kids,tC k):tC (.mk 1 tag key z0 attrs kids)
 |vo {tag key:qA} {attrs:List P3.At} (hm:UB ⟨3,tag,key⟩=true) (ha:∀a∈attrs,UB (vE a)=true):tC (.mk 1 tag key z0 attrs [])
 |tx {t:qA} (hm:UB ⟨4,t,z0⟩=true):tC (.mk 2 z0 z0 t [] [])
 |nd:tC (.mk 3 z0 z0 z0 [] [])
 |al:tC (.mk 4 z0 z0 z0 [] [])
theorem PL{a b:qA}(h:UB ⟨1,a,b⟩=true):P1.dC a.data.toList=false:=by
 simp only[UB,if_true,Bool.and_eq_true,Bool.not_eq_true'] at h;exact h.1.2
theorem wK{a b:qA}(h:UB ⟨3,a,b⟩=true):P1.dC a.data.toList=true:=by
 have e:UB ⟨3,a,b⟩=(P1.dC a.data.toList&&P1.yC b.data.toList):=(by simp[UB]);rw[e,Bool.and_eq_true] at h;exact h.1
theorem TM{tag key txt:qA}{attrs:List P3.At}{kids:List PW}(h:P1.dC tag.data.toList=false):PD (.mk 1 tag key txt attrs kids)=⟨1,tag,key⟩:: (attrs.map vE++(sD kids++[⟨2,z0,z0⟩])):=by
 rw[PD,if_pos rfl,h,if_neg pA]
theorem yL{tag key txt:qA}{attrs:List P3.At}{kids:List PW}(h:P1.dC tag.data.toList=true):PD (.mk 1 tag key txt attrs kids)=⟨3,tag,key⟩:: attrs.map vE:=by
 rw[PD,if_pos rfl,if_pos h]
structure Fr where
 done:List PW
 tag:qA
 key:qA
 attrs:List P3.At
structure St where
 stack:List Fr
 cur:List PW
def PW.uC:PW->P3.At->PW
 | .mk k t y x a ks,n=> .mk k t y x (a++[n]) ks
def nS:List PW->P3.At->List PW
 |[],_=>[]
 |[a],n=>[a.uC n]
 |a:: b:: l,n=>a:: nS (b:: l) n
theorem WX(t:PW)(n:P3.At):∀l:List PW,nS (l++[t]) n=l++[t.uC n]
 |[]=>rfl
 |[b]=>rfl
 |b:: c:: l=>by
  have:=WX t n (c:: l);show b:: nS ((c:: l)++[t]) n=_;rw[this];rfl
def nG(s:St)(x:In):St:=
 if x.op=1 then⟨⟨s.cur,x.a,x.b,[]⟩:: s.stack,[]⟩
 else if x.op=2 then(match s.stack with
  |[]=>s
  |f:: r=>⟨r,f.done++[.mk 1 f.tag f.key z0 f.attrs s.cur]⟩)
 else if x.op=3 then⟨s.stack,s.cur++[.mk 1 x.a x.b z0 [] []]⟩
 else if x.op=4 then⟨s.stack,s.cur++[.mk 2 z0 z0 x.a [] []]⟩
 else if x.op=7 then⟨s.stack,s.cur++[.mk 4 z0 z0 z0 [] []]⟩
 else if x.op=8 then⟨s.stack,s.cur++[.mk 3 z0 z0 z0 [] []]⟩
 else(match s.cur,s.stack with
  |[],[]=>s
  |[],f:: r=>⟨⟨f.done,f.tag,f.key,f.attrs++[yM x]⟩:: r,[]⟩
  |a:: l,st=>⟨st,nS (a:: l) (yM x)⟩)
theorem vf{x:In}{f:Fr}{r:List Fr}(h:bD x.op=true):nG ⟨f:: r,[]⟩ x=⟨⟨f.done,f.tag,f.key,f.attrs++[yM x]⟩:: r,[]⟩:=by
 simp only[bD,decide_eq_true_eq] at h;rw[nG,if_neg dA,if_neg dA,if_neg dA,if_neg dA,if_neg dA,if_neg dA]
theorem Eg{x:In}{st:List Fr}{init:List PW}{t:PW}(h:bD x.op=true):nG ⟨st,init++[t]⟩ x=⟨st,init++[t.uC (yM x)]⟩:=by
 simp only[bD,decide_eq_true_eq] at h;rw[nG,if_neg dA,if_neg dA,if_neg dA,if_neg dA,if_neg dA,if_neg dA,<-WX];cases init<;>rfl
def WJ(l:List In)(k:Nat):St:=(l.take k).foldl nG ⟨[],[]⟩
def MB(l:List In):List PW:=(l.foldl nG ⟨[],[]⟩).cur
theorem Af{l:List In}{k:Nat}(h:k<l.length):WJ l (k+1)=nG (WJ l k) l[k]:=by
 unfold WJ;rw[List.take_add_one,List.getElem?_eq_getElem h,List.foldl_append];rfl
def aO:List Fr->List In
 |[]=>[]
 |f:: r=>aO r++(sD f.done++(⟨1,f.tag,f.key⟩:: f.attrs.map vE))
structure Wx(f:Fr):Prop where
 done:∀t∈f.done,tC t
 may:UB ⟨1,f.tag,f.key⟩=true
 attrs:∀a∈f.attrs,UB (vE a)=true
structure Inv(l:List In)(k:Nat)(s:St):Prop where
 text:aO s.stack++sD s.cur=l.take k
 cur:∀t∈s.cur,tC t
 iL:∀f∈s.stack,Wx f
 len:s.stack.length=(IC l k).length
 mode:NG l k≠none->(s.cur=[]/\s.stack≠[])\/∃(init:List PW) (tag key:qA) (attrs:List P3.At),s.cur=init++[.mk 1 tag key z0 attrs []]/\UB ⟨3,tag,key⟩=true/\∀a∈attrs,UB (vE a)=true
theorem xQ{l:List In}{k:Nat}(h:k<l.length)(h1:FE l[k].op=false)(h2:bD l[k].op=false):NG l (k+1)=none:=by
 rw[qQ h,nT h1 h2]
theorem vR{l:List In}{k:Nat}{s:St}(h:Inv l k s)(hk:k<l.length){t:PW}(ht:tC t)(hb:PD t=[l[k]])(h1:l[k].op≠1)(h2:l[k].op≠2)(hmode:NG l (k+1)≠none->∃(tag key:qA) (attrs:List P3.At),t= .mk 1 tag key z0 attrs []/\UB ⟨3,tag,key⟩=true/\∀a∈attrs,UB (vE a)=true):Inv l (k+1) ⟨s.stack,s.cur++[t]⟩ where
 text:=by
  rw[List.take_add_one,List.getElem?_eq_getElem hk,<-h.text];simp only[lQ,eU,hb,Option.toList_some,List.append_assoc]
 cur:=fun u b=>by
  rcases List.mem_append.1 b with b|b
  ·exact h.cur u b
  ·rw[List.mem_singleton.1 b];exact ht
 iL:=h.iL
 len:=by rw[h.len,zO hk,rJ,if_neg h1,if_neg h2]
 mode:=fun c=>by
  obtain⟨tag,key,attrs,e,d,f⟩:=hmode c;exact .inr ⟨s.cur,tag,key,attrs,by rw[e],d,f⟩
theorem Ql{l:List In}{k:Nat}(hk:k<l.length)(h:Inv l k (WJ l k))(hf:zD l k=0)(hw:RH l k=0):Inv l (k+1) (WJ l (k+1)):=by
 rw[Af hk];have p:=iX hk hf;rw[hw] at p;have T:=(WR dA hf).len;generalize U:WJ l k=s at h;clear U;obtain⟨c,i⟩:=s;have d:UB l[k]=true:=by
  cases hm:UB l[k] with
  |true=>rfl
  |false=>rw[mJ,if_pos hm] at p;cases p
 obtain⟨_,_,V,W,O,P⟩:=DQ d;have hx:∀x,l[k]=x->l[k]=x:=fun _ e=>e
 by_cases q:l[k].op=1
 ·have v:nG ⟨c,i⟩ l[k]=⟨⟨i,l[k].a,l[k].b,[]⟩:: c,[]⟩:=(by rw[nG,if_pos q]);rw[v];have G:(⟨1,l[k].a,l[k].b⟩:In)=l[k]:=(by rw[<-q]);refine⟨?_,(fun t n=>by cases n),fun f hf=>?_,?_,fun _=> .inl ⟨rfl,by simp⟩⟩
  ·rw[List.take_add_one,List.getElem?_eq_getElem hk,<-h.text];simp only[aO,sD,List.map_nil,List.append_nil,Option.toList_some,G,List.append_assoc]
  ·rcases List.mem_cons.1 hf with rfl|hf
   ·exact⟨h.cur,by rw[G];exact d,fun a u=>by cases u⟩
   ·exact h.iL f hf
  ·rw[zO hk,rJ,if_pos q,List.length_append,<-h.len];simp
 by_cases o:l[k].op=2
 ·have w:=O (by rw[o];rfl);have Q:l[k]=⟨2,z0,z0⟩:=by
   obtain⟨j,m⟩:=w;generalize l[k]=x at o j m;obtain⟨y,a,b⟩:=x;simp only at o j m;rw[o,j,m];rfl
  have H:0<c.length:=by
   rw[h.len];rw[mJ,if_neg (by rw[d];decide),if_neg (by rw[o];decide),if_pos o] at p;split at p
   ·cases p
   ·omega
  cases c with
  |nil=>simp at H
  |cons f r=>
   have v:nG ⟨f:: r,i⟩ l[k]=⟨r,f.done++[.mk 1 f.tag f.key z0 f.attrs i]⟩:=(by rw[nG,if_neg q,if_pos o]);rw[v];have A:=h.iL f FA;refine⟨?_,fun t n=>?_,fun g I=>h.iL g (by simp[I]),?_,fun z=>absurd (xQ hk (by rw[o];rfl) (by rw[o];rfl)) z⟩
   ·rw[List.take_add_one,List.getElem?_eq_getElem hk,<-h.text];simp only[aO,lQ,eU,TM (PL A.may),Option.toList_some,List.append_assoc,List.cons_append,Q]
   ·rcases List.mem_append.1 n with n|n
    ·exact A.done t n
    ·rw[List.mem_singleton.1 n];exact .el A.may A.attrs h.cur
   ·rw[zO hk,rJ,if_neg q,if_pos o,List.length_dropLast,<-h.len];simp
 by_cases J:l[k].op=3
 ·have K:l[k]=⟨3,l[k].a,l[k].b⟩:=(by rw[<-J]);have v:nG ⟨c,i⟩ l[k]=⟨c,i++[.mk 1 l[k].a l[k].b z0 [] []]⟩:=(by rw[nG,if_neg q,if_neg o,if_pos J]);rw[v];have D:UB ⟨3,l[k].a,l[k].b⟩=true:=(by rw[<-K];exact d);exact vR h hk (.vo D (fun a u=>by cases u)) (by rw[yL (wK D),List.map_nil,<-K]) q o (fun _=>⟨_,_,[],rfl,D,(fun a u=>by cases u)⟩)
 by_cases E:l[k].op=4
 ·have X:=P (by rw[E];rfl);have L:l[k]=⟨4,l[k].a,z0⟩:=(by rw[<-E];show l[k]=⟨l[k].op,l[k].a,bs []⟩;rw[<-X]);have v:nG ⟨c,i⟩ l[k]=⟨c,i++[.mk 2 z0 z0 l[k].a [] []]⟩:=(by rw[nG,if_neg q,if_neg o,if_neg J,if_pos E]);rw[v];exact vR h hk (.tx (by rw[<-L];exact d)) (by rw[PD,if_neg pA,if_pos rfl,<-L]) q o (fun z=>absurd (xQ hk (by rw[E];rfl) (by rw[E];rfl)) z)
 by_cases B:l[k].op=7
 ·have w:=O (by rw[B];rfl);have R:l[k]=⟨7,z0,z0⟩:=by
   obtain⟨j,m⟩:=w;generalize l[k]=x at B j m;obtain⟨y,a,b⟩:=x;simp only at B j m;rw[B,j,m];rfl
  have v:nG ⟨c,i⟩ l[k]=⟨c,i++[.mk 4 z0 z0 z0 [] []]⟩:=(by rw[nG,if_neg q,if_neg o,if_neg J,if_neg E,if_pos B]);rw[v];exact vR h hk .al (by rw[PD,if_neg pA,if_neg pA,if_neg pA,if_pos rfl,R]) q o (fun z=>absurd (xQ hk (by rw[B];rfl) (by rw[B];rfl)) z)
 by_cases F:l[k].op=8
 ·have w:=O (by rw[F];rfl);have S:l[k]=⟨8,z0,z0⟩:=by
   obtain⟨j,m⟩:=w;generalize l[k]=x at F j m;obtain⟨y,a,b⟩:=x;simp only at F j m;rw[F,j,m];rfl
  have v:nG ⟨c,i⟩ l[k]=⟨c,i++[.mk 3 z0 z0 z0 [] []]⟩:=(by rw[nG,if_neg q,if_neg o,if_neg J,if_neg E,if_neg B,if_pos F]);rw[v];exact vR h hk .nd (by rw[PD,if_neg pA,if_neg pA,if_pos rfl,S]) q o (fun z=>absurd (xQ hk (by rw[F];rfl) (by rw[F];rfl)) z)
 ·have n:bD l[k].op=true:=(by simp only[bD,decide_eq_true_eq];omega);have z:NG l k≠none:=fun e=>by
   rw[mJ,if_neg (by rw[d];decide),if_pos n,e] at p;cases p
  have N:=Nl n;have C:(IC l (k+1)).length=(IC l k).length:=(by rw[zO hk,rJ,if_neg q,if_neg o]);rcases h.mode z with⟨hc,hst⟩|⟨init,tag,key,attrs,hc,hm,u⟩
  ·simp only at hc hst;subst hc;cases c with
   |nil=>exact absurd rfl hst
   |cons f r=>
    rw[vf n];have A:=h.iL f FA;refine⟨?_,(fun t n=>by cases n),fun g I=>?_,by rw[C,<-h.len];rfl,fun _=> .inl ⟨rfl,by simp⟩⟩
    ·rw[List.take_add_one,List.getElem?_eq_getElem hk,<-h.text];simp only[aO,sD,List.map_append,List.map_cons,List.map_nil,List.append_nil,Option.toList_some,N,List.append_assoc,List.cons_append]
    ·rcases List.mem_cons.1 I with rfl|I
     ·refine⟨A.done,A.may,fun a u=>?_⟩;rcases List.mem_append.1 u with u|u
      ·exact A.attrs a u
      ·rw[List.mem_singleton.1 u,N];exact d
     ·exact h.iL g (by simp[I])
  ·simp only at hc;subst hc;rw[Eg n,PW.uC];have M:∀a∈attrs++[yM l[k]],UB (vE a)=true:=fun a h=>by
    rcases List.mem_append.1 h with h|h
    ·exact u a h
    ·rw[List.mem_singleton.1 h,N];exact d
   refine⟨?_,fun t n=>?_,h.iL,by rw[C,<-h.len],fun _=> .inr ⟨init,tag,key,_,rfl,hm,M⟩⟩
   ·rw[List.take_add_one,List.getElem?_eq_getElem hk,<-h.text];simp only[lQ,eU,yL (wK hm),List.map_append,List.map_cons,List.map_nil,Option.toList_some,N,List.append_assoc,List.cons_append]
   ·rcases List.mem_append.1 n with n|n
    ·exact h.cur t (by simp[n])
    ·rw[List.mem_singleton.1 n];exact .vo hm M
theorem ya{l:List In}:∀{k:Nat},k<=l.length->zD l k=0->Inv l k (WJ l k)
 |0,_,_=>⟨rfl,(fun t ht=>by cases ht),(fun f hf=>by cases hf),rfl,fun h=>absurd rfl h⟩
 |k+1,hk,hf=>by
  have h0:zD l k=0:=by
   rw[zD] at hf;split at hf
   ·assumption
   ·exact hf
  have hw:RH l k=0:=(by rw[zD,if_pos h0] at hf;exact hf);exact Ql dA (ya dA h0) h0 hw
theorem qT{l:List In}(h:WD l=0):l.length<=120/\zD l l.length=0/\(IC l l.length).length=0:=by
 unfold WD at h;split at h
 ·cases h
 ·split at h
  ·rename_i h1 h2;split at h
   ·cases h
   ·rename_i h3;rw[uQ] at h3;exact⟨by omega,h2,by omega⟩
  ·rename_i h1 h2;exact absurd h h2
theorem GQ{l:List In}(h:WD l=0):sD (MB l)=l/\∀t∈MB l,tC t:=by
 obtain⟨_,f,g⟩:=qT h;have a:=ya Zl f;have c:WJ l l.length=l.foldl nG ⟨[],[]⟩:=(by rw[WJ,List.take_length]);have d:=a.len;rw[g] at d;have e:=a.text;rw[List.eq_nil_of_length_eq_zero d,aO,List.nil_append,List.take_length,c] at e;refine⟨e,fun t b=>a.cur t ?_⟩;rw[c];exact b
end P14
namespace P13
open Go.RowKit Kd P4 P5 P11 P12
theorem ys{P:Program}{α:Type}{K:Kind P α}{w:World}{B:Nat}{A:vA}{n c k:Nat}{l:List α}(h:K.Own w B (.slice A n c) l)(hk:k<=l.length):K.Own w B (.slice A k c) (l.take k):=by
 rcases h.form with⟨hv,hl⟩|⟨g,c',cur,hv,_,hg,hlt,hh,qD,UC,hcs,ht⟩
 ·injection hv with e1 e2 e3;subst e1;subst e2;subst e3;subst hl;obtain rfl:k=0:=by simpa using hk
  rw[List.take_nil];exact h
 ·injection hv with e1 e2 e3;subst e1;subst e2;subst e3;refine Kind.OH jB hg hh dA UC hcs ?_;rw[Kind.FO,<-ht,List.take_take,Nat.min_eq_left (Nat.mul_le_mul_right _ hk)]
end P13
namespace P14
open Go.RowKit Kd P4 P5 P11 P12 P13
def sJ(l:List In):Prop:=∀x,l.head? = some x->bD x.op=false
theorem YX{e:PW}(h:tC e):∃x r,PD e=x:: r/\bD x.op=false:=by
 cases h with
 |el hm ha hk=>exact⟨_,_,TM (PL hm),rfl⟩
 |vo hm ha=>exact⟨_,_,yL (wK hm),rfl⟩
 |tx hm=>exact⟨_,_,by rw[PD,if_neg pA,if_pos rfl],rfl⟩
 |nd=>exact⟨_,_,by rw[PD,if_neg pA,if_neg pA,if_pos rfl],rfl⟩
 |al=>exact⟨_,_,by rw[PD,if_neg pA,if_neg pA,if_neg pA,if_pos rfl],rfl⟩
theorem Bi{e:PW}(h:tC e):1<=(PD e).length:=by
 obtain⟨x,r,a,_⟩:=YX h;rw[a];simp
theorem ZX{l:List PW}{r:List In}(h:∀t∈l,tC t)(hr:sJ r):sJ (sD l++r):=by
 cases l with
 |nil=>rw[sD,List.nil_append];exact hr
 |cons a l=>
  obtain⟨x,q,c,d⟩:=YX (h a FA);intro y b;rw[sD,c] at b;simp only[List.cons_append,List.head?_cons,Option.some.injEq] at b;rw[<-b];exact d
theorem sJ.cons{x:In}{r:List In}(h:bD x.op=false):sJ (x:: r):=fun y a=>by
 simp only[List.head?_cons,Option.some.injEq] at a;rw[<-a];exact h
theorem za{l:List PW}(h:∀t∈l,pF t<=(PD t).length):cD l<=(sD l).length:=by
 induction l with
 |nil=>simp[cD]
 |cons a l ih=>
  have c:=h a FA;have d:=ih (fun t b=>h t (by simp[b]));rw[sD,List.length_append,cD];omega
theorem Qv(e:PW)(h:tC e):pF e<=(PD e).length:=by
 induction e using PW.ind with
 |h kind tag key txt attrs kids ih=>
  cases h with
  |el hm ha hk=>
   have:=za (fun t a=>ih t a (hk t a));rw[TM (PL hm),pF];simp only[List.length_cons,List.length_append,List.length_map,List.length_nil];omega
  |vo hm ha=>rw[yL (wK hm),pF];simp[cD];omega
  |tx hm=>rw[PD,if_neg pA,if_pos rfl,pF];simp[cD]
  |nd=>rw[PD,if_neg pA,if_neg pA,if_pos rfl,pF];simp[cD]
  |al=>rw[PD,if_neg pA,if_neg pA,if_neg pA,if_pos rfl,pF];simp[cD]
theorem zq{l:List PW}(h:∀t∈l,tC t):cD l<=(sD l).length:=za (fun t a=>Qv t (h t a))
theorem xw:(prog.info? 268).map (fun i=>(i.zero,i.size,i.bytes))=some (some (.agg #[aA 0,oA,oA,oA,tA,tA]),6,104):=by kernel_rfl
def WV.cells(a:WV):List Value:=[aA a.kind,bA a.tag,bA a.key,bA a.txt,.slice a.sa.A a.sa.n a.sa.c,.slice a.sk.A a.sk.n a.sk.c]
def kW:Kind prog WV where
 t:=156
 e:=268
 size:=6
 bytes:=104
 z:=.agg #[aA 0,oA,oA,oA,tA,tA]
 cs:=WV.cells
 ht:=underlying156
 info:=LH xw
 zH:=rfl
 zG:=by decide
 BH:=by decide
 len:=fun _=>rfl
 one:=fun a u hu=>by simp[WV.cells] at hu;rcases hu with rfl|rfl|rfl|rfl|rfl|rfl<;>rfl
theorem pU{w:World}{B:Nat}{A:vA}{l:List WV}(h:kW.AA w B A l){k:Nat}(hk:k<l.length):
 ∃b o,A=some (cA b o)/\b<B/\w.cell? ⟨b,o+k*6,none⟩=some (aA l[k].kind)/\w.cell? ⟨b,o+k*6+1,none⟩=some (bA l[k].tag)/\w.cell? ⟨b,o+k*6+2,none⟩=some (bA l[k].key)/\
  w.cell? ⟨b,o+k*6+3,none⟩=some (bA l[k].txt)/\w.cell? ⟨b,o+k*6+4,none⟩=some (.slice l[k].sa.A l[k].sa.n l[k].sa.c)/\w.cell? ⟨b,o+k*6+5,none⟩=some (.slice l[k].sk.A l[k].sk.n l[k].sk.c):=by
 obtain⟨b,o,rfl,c,a⟩:=h.at hk;exact⟨b,o,rfl,c,a 0 _ rfl,a 1 _ rfl,a 2 _ rfl,a 3 _ rfl,a 4 _ rfl,a 5 _ rfl⟩
inductive oD(K:Kind prog WV)(w:World)(C:Nat):WV->Prop
 |mk {kind:Int} {tag key txt:qA} {sa sk:Sv} {attrs:List P3.At} {kids:List WV} (al:attrs.length=sa.n) (ac:sa.n<=sa.c) (az:sa.A=none->sa.c=0) (ah:kA.AA w C sa.A attrs)
  (kl:kids.length=sk.n) (kc:sk.n<=sk.c) (kz:sk.A=none->sk.c=0) (kh:K.AA w C sk.A kids) (ks:∀k∈kids,oD K w C k):oD K w C (.mk kind tag key txt sa attrs sk kids)
section
variable{K:Kind prog WV}{w w':World}{C D:Nat}{t:WV}
theorem oD.al(h:oD K w C t):t.attrs.length=t.sa.n:=by cases h;assumption
theorem oD.ac(h:oD K w C t):t.sa.n<=t.sa.c:=by cases h;assumption
theorem oD.az(h:oD K w C t):t.sa.A=none->t.sa.c=0:=by cases h;assumption
theorem oD.ah(h:oD K w C t):kA.AA w C t.sa.A t.attrs:=by cases h;assumption
theorem oD.kl(h:oD K w C t):t.kids.length=t.sk.n:=by cases h;assumption
theorem oD.kc(h:oD K w C t):t.sk.n<=t.sk.c:=by cases h;assumption
theorem oD.kz(h:oD K w C t):t.sk.A=none->t.sk.c=0:=by cases h;assumption
theorem oD.kh(h:oD K w C t):K.AA w C t.sk.A t.kids:=by cases h;assumption
theorem oD.ks(h:oD K w C t):∀k∈t.kids,oD K w C k:=by cases h;assumption
theorem oD.later(h:oD K w C t)(hb:Below D w w')(hC:C<=D):oD K w' C t:=by
 induction t using WV.ind with
 |h kind tag key txt sa attrs sk kids ih=>exact⟨h.al,h.ac,h.az,h.ah.below hb hC,h.kl,h.kc,h.kz,h.kh.below hb hC,fun k a=>ih k a (h.ks k a)⟩
theorem oD.more(h:oD K w C t)(hC:C<=D):oD K w D t:=by
 induction t using WV.ind with
 |h kind tag key txt sa attrs sk kids ih=>exact⟨h.al,h.ac,h.az,h.ah.more hC,h.kl,h.kc,h.kz,h.kh.more hC,fun k a=>ih k a (h.ks k a)⟩
theorem oD.on(h:oD K w w.heap.size t)(hb:fA w w'):oD K w' w'.heap.size t:=(h.later hb Zl).more hb.size
end
inductive lC(K:Kind prog WV)(w:World)(Q:Nat->Prop):WV->Prop
 |mk {kind:Int} {tag key txt:qA} {sa sk:Sv} {attrs:List P3.At} {kids:List WV} (at_:ZB w sa attrs) (own:K.Own w 0 (.slice sk.A sk.n sk.c) kids) (q:∀b,(Value.slice sk.A sk.n sk.c).ownBlock=some b->Q b) (ks:∀k∈kids,lC K w Q k):lC K w Q (.mk kind tag key txt sa attrs sk kids)
section
variable{K:Kind prog WV}{w w':World}{Q R S:Nat->Prop}{t:WV}
theorem lC.at_(h:lC K w Q t):ZB w t.sa t.attrs:=by cases h;assumption
theorem lC.own(h:lC K w Q t):K.Own w 0 (.slice t.sk.A t.sk.n t.sk.c) t.kids:=by cases h;assumption
theorem lC.q(h:lC K w Q t):∀b,(Value.slice t.sk.A t.sk.n t.sk.c).ownBlock=some b->Q b:=by cases h;assumption
theorem lC.ks(h:lC K w Q t):∀k∈t.kids,lC K w Q k:=by cases h;assumption
theorem lC.mono(h:lC K w Q t)(hq:∀b,b<w.heap.size->Q b->R b):lC K w R t:=by
 induction t using WV.ind with
 |h kind tag key txt sa attrs sk kids ih=>exact⟨h.at_,h.own,fun b a=>hq b (h.own.lt a).2 (h.q b a),fun k c=>ih k c (h.ks k c)⟩
theorem lC.but(h:lC K w Q t)(hb:iA S w w')(hS:∀b,Q b->¬S b)(hA:vC w S):lC K w' Q t:=by
 induction t using WV.ind with
 |h kind tag key txt sa attrs sk kids ih=>exact⟨h.at_.but hb hA,h.own.but hb (fun b e=>hS b (h.q b e)),h.q,fun k a=>ih k a (h.ks k a)⟩
theorem lC.later(h:lC K w Q t)(hb:fA w w'):lC K w' Q t:=h.but (iA.oB hb (fun _=>False)) (fun _ _ h=>h) (vC.none w)
theorem lC.ok(h:lC K w Q t):oD K w w.heap.size t:=by
 induction t using WV.ind with
 |h kind tag key txt sa attrs sk kids ih=>
  have a:=h.at_;have b:=h.own;simp only[WV.sa,WV.attrs] at a;simp only[WV.sk,WV.kids] at b;obtain⟨A,n,c,f,g,i,m,j,l⟩:=b.slice;injection f with v1 v2 v3;subst v1;subst v2;subst v3;exact⟨a.len,a.cap,a.nil,a.holds,g,i,fun e=>j e,l,fun k d=>ih k d (h.ks k d)⟩
end
theorem jo{S:Nat->Prop}{w:World}{e:TypeId}(he:e≠131)(h:∀b,S b->∃cur,w.heap[b]? = some (.cells cur e (0,0))):vC w S:=fun k cur i a d=>by
 obtain⟨c,f⟩:=h k a;exact WA d f (fun g=>he g.symm) rfl
theorem Ah{K:Kind prog WV}(he:K.e≠131){w5 w7:World}{o:Obj}{D:Nat}{A A7:vA}{n c n7 c7:Nat}{l:List WV}{k:WV}{Q:Nat->Prop}(own:K.Own w5 D (.slice A n c) l)
 (ks:∀k∈l,lC K w5 (fun b=>Q b/\(Value.slice A n c).ownBlock≠some b) k) (hk:lC K w5 (fun b=>Q b/\(Value.slice A n c).ownBlock≠some b) k) (hg:(w5.alloc o).grownBy w7 (Value.slice A n c).ownBlock)
 (hat:(Value.slice A7 n7 c7).ownBlock=(Value.slice A n c).ownBlock\/(Value.slice A7 n7 c7).ownBlock=some (w5.alloc o).heap.size):
 (∀t∈l++[k],lC K w7 (fun b=>Q b/\(Value.slice A7 n7 c7).ownBlock≠some b) t)/\iA (fun b=>(Value.slice A n c).ownBlock=some b) w5 w7:=by
 have f:iA (fun b=>(Value.slice A n c).ownBlock=some b) w5 w7:=(iA.alloc (iA.refl _ _) _).trans (iA.WG (S:=fun i=>(Value.slice A n c).ownBlock=some i) hg (fun i g _=>g)) (fun _ _ h=>h);have j:∀b,(Value.slice A n c).ownBlock=some b->∃cur,w5.heap[b]? = some (.cells cur K.e (0,0)):=fun b e=>own.ty e
 have a:∀k:WV,lC K w5 (fun b=>Q b/\(Value.slice A n c).ownBlock≠some b) k->lC K w7 (fun b=>Q b/\(Value.slice A7 n7 c7).ownBlock≠some b) k:=by
  intro k h;have m:lC K w5 (fun b=>(Q b/\(Value.slice A n c).ownBlock≠some b)/\b<w5.heap.size) k:=h.mono fun b p d=>⟨d,p⟩
  refine(m.but f (fun b d q=>d.1.2 q) (jo he j)).mono fun b _ d=>⟨d.1.1,fun e=>?_⟩
  rcases hat with h2|h2
  ·exact d.1.2 (h2▸e)
  ·rw[h2] at e;injection e with e;have:=d.2;simp at e;omega
 refine⟨fun t r=>?_,f⟩;rcases List.mem_append.1 r with h|h
 ·exact a t (ks t h)
 ·rw[List.mem_singleton.1 h];exact a _ hk
end P14
namespace P16
open Go.RowKit Kd P4 P5 P11 P12 P13 P14
structure Ol where
 tag:qA
 key:qA
def fD(w:PW)(o:Ol)(first:Bool):Bool:=
 if w.kind=1 then bq o.tag w.tag&&bq o.key w.key&&(first || !w.key.toList.isEmpty)
 else if w.kind=2 then first&&o.tag.toList.isEmpty
 else if w.kind=3 then first
 else false
def tB(w:PW)(old:List Ol)(left:List Bool):Nat->Int×Bool
 |0=>(-1,true)
 |k+1=>if 0<=(tB w old left k).1 then tB w old left k else match old[k]?,left[k]? with
  |some o,some true=>(if fD w o (tB w old left k).2 then(k:Int) else -1,false)
  |_,_=>tB w old left k
def yF(left:List Bool):Nat->List Int
 |0=>[]
 |k+1=>match left[k]? with
  |some true=>yF left k++[(k:Int)]
  |_=>yF left k
structure Ms where
 left:List Bool
 take:List Int
 kept:List Int
def QG(left:List Bool)(at_:Int):List Bool:=if 0<=at_ then left.set at_.toNat false else left
def UF(old:List Ol)(s:Ms)(w:PW):Ms:=
 if w.kind=4 then⟨List.replicate old.length false,s.take++[(tB w old s.left old.length).1],s.kept++yF (QG s.left (tB w old s.left old.length).1) old.length⟩
 else⟨QG s.left (tB w old s.left old.length).1,s.take++[(tB w old s.left old.length).1],s.kept⟩
def foldM(old:List Ol)(ws:List PW):Ms:=ws.foldl (UF old) ⟨List.replicate old.length true,[],[]⟩
theorem FT{old:List Ol}{ws:List PW}{j:Nat}(h:j<ws.length):foldM old (ws.take (j+1))=UF old (foldM old (ws.take j)) ws[j]:=by
 unfold foldM;rw[List.take_add_one,List.getElem?_eq_getElem h,List.foldl_append];rfl
theorem rT{w:PW}{old:List Ol}{left:List Bool}{k:Nat}(h:0<=(tB w old left k).1):∀j,tB w old left (k+j)=tB w old left k
 |0=>rfl
 |j+1=>by
  have ih:=rT h j;rw[<-Nat.add_assoc,tB,if_pos (by rw[ih];exact h),ih]
theorem Fg{w:PW}{old:List Ol}{left:List Bool}{k:Nat}(h:¬0<=(tB w old left k).1)(hl:left[k]? = some false):tB w old left (k+1)=tB w old left k:=by
 rw[tB,if_neg h,hl];split
 ·rename_i h1 h2;cases h2
 ·rfl
theorem aY{w:PW}{old:List Ol}{left:List Bool}{k:Nat}{o:Ol}(h:¬0<=(tB w old left k).1)(ho:old[k]? = some o)(hl:left[k]? = some true):tB w old left (k+1)=(if fD w o (tB w old left k).2 then(k:Int) else -1,false):=by
 rw[tB,if_neg h,ho,hl]
theorem Rl{left:List Bool}{k:Nat}(h:left[k]? = some true):yF left (k+1)=yF left k++[(k:Int)]:=by rw[yF,h]
theorem Aq{left:List Bool}{k:Nat}(h:left[k]? = some false):yF left (k+1)=yF left k:=by rw[yF,h]
theorem aR(left:List Bool):∀k,(yF left k).length<=k
 |0=>by simp[yF]
 |k+1=>by
  have:=aR left k;rw[yF];split
  ·simp;omega
  ·omega
theorem Ci(left:List Bool)(a:Int):(QG left a).length=left.length:=by unfold QG;split<;>simp
theorem Di{old:List Ol}{s:Ms}{w:PW}(h:s.left.length=old.length):(UF old s w).left.length=old.length:=by
 unfold UF;split
 ·simp
 ·rw[Ci,h]
theorem UY{old:List Ol}:∀{ws:List PW} {s:Ms},s.left.length=old.length->(ws.foldl (UF old) s).left.length=old.length
 |[],_,h=>h
 |w:: ws,s,h=>by
  rw[List.foldl_cons];exact UY (ws:=ws) (s:=UF old s w) (Di h)
theorem Gg(old:List Ol)(ws:List PW):(foldM old ws).left.length=old.length:=UY FA
theorem Ei{old:List Ol}{s:Ms}{w:PW}:(UF old s w).take.length=s.take.length+1/\(UF old s w).kept.length<=s.kept.length+old.length:=by
 unfold UF;split
 ·have:=aR (QG s.left (tB w old s.left old.length).1) old.length;simp;omega
 ·simp
theorem VY{old:List Ol}:∀{ws:List PW} {s:Ms},(ws.foldl (UF old) s).take.length=s.take.length+ws.length/\(ws.foldl (UF old) s).kept.length<=s.kept.length+ws.length*old.length
 |[],s=>by simp
 |w:: ws,s=>by
  have h:=VY (old:=old) (ws:=ws) (s:=UF old s w);have h2:=Ei (old:=old) (s:=s) (w:=w);rw[List.foldl_cons,List.length_cons,Nat.succ_mul];omega
theorem yQ(old:List Ol)(ws:List PW):(foldM old ws).take.length=ws.length/\(foldM old ws).kept.length<=ws.length*old.length:=by
 have:=VY (old:=old) (ws:=ws) (s:=⟨List.replicate old.length true,[],[]⟩);unfold foldM;simpa using this
def TF(left:List Bool)(k:Nat):List Bool:=List.replicate k false++left.drop k
theorem Bf(left:List Bool):TF left 0=left:=by simp[TF]
theorem Hg{left:List Bool}{k:Nat}(h:k<left.length):(TF left k).set k false=TF left (k+1):=by
 unfold TF;rw[List.set_append_right _ _ FA,List.length_replicate,Nat.sub_self,List.drop_eq_getElem_cons h,List.set_cons_zero,List.replicate_succ',List.append_assoc];rfl
theorem Fi{left:List Bool}{k:Nat}(h:k<left.length)(hf:left[k]? = some false):TF left k=TF left (k+1):=by
 unfold TF;rw[List.drop_eq_getElem_cons h,List.replicate_succ',List.append_assoc];rw[List.getElem?_eq_getElem h] at hf;injection hf with hf;rw[hf];rfl
theorem Ig(left:List Bool):TF left left.length=List.replicate left.length false:=by simp[TF]
theorem zw:(prog.info? 289).map (fun i=>(i.zero,i.size,i.bytes))=some (some (.agg #[oA,oA]),2,32):=by kernel_rfl
theorem Kc:(prog.info? 4).map (fun i=>(i.zero,i.size,i.bytes))=some (some (.bool false),1,1):=by kernel_rfl
def Ol.cells(o:Ol):List Value:=[bA o.tag,bA o.key]
def kO:Kind prog Ol where
 t:=265
 e:=289
 size:=2
 bytes:=32
 z:=.agg #[oA,oA]
 cs:=Ol.cells
 ht:=underlying265
 info:=LH zw
 zH:=rfl
 zG:=by decide
 BH:=by decide
 len:=fun _=>rfl
 one:=fun a u hu=>by simp[Ol.cells] at hu;rcases hu with rfl|rfl<;>rfl
def lL:Kind prog Bool where
 t:=244
 e:=4
 size:=1
 bytes:=1
 z:=.bool false
 cs:=fun c=>[.bool c]
 ht:=underlying244
 info:=LH Kc
 zH:=rfl
 zG:=by decide
 BH:=by decide
 len:=fun _=>rfl
 one:=fun a u hu=>by simp at hu;subst hu;rfl
theorem QQ{w:World}{B:Nat}{A:vA}{l:List Ol}(h:kO.AA w B A l){k:Nat}(hk:k<l.length):
 ∃b o,A=some (cA b o)/\b<B/\w.cell? ⟨b,o+k*2,none⟩=some (bA l[k].tag)/\w.cell? ⟨b,o+k*2+1,none⟩=some (bA l[k].key):=by
 obtain⟨b,o,rfl,c,a⟩:=h.at hk;exact⟨b,o,rfl,c,a 0 _ rfl,a 1 _ rfl⟩
theorem K7{P:Program}{α:Type}{K:Kind P α}{w:World}{B g n c:Nat}{l:List α}(h:K.Own w B (.slice (some (cA g 0)) n c) l){k:Nat}(hk:k<l.length)(a:α):
 K.Own (w.setCells g (k*K.size) (K.cs a)) B (.slice (some (cA g 0)) n c) (l.set k a):=by
 rcases h.form with⟨hv,_⟩|⟨g',c',cur,hv,_,hBg,hlt,hh,qD,UC,hcs,ht⟩
 ·cases hv
 injection hv with e1 e2 e3;injection e1 with e1;injection e1 with e1;subst e1;subst e2;subst e3;obtain⟨q,t,u,v⟩:=cI g (K.cs a) (k*K.size) w cur _ _ hh;have r:l.length*K.size<=c*K.size:=Nat.mul_le_mul_right _ qD;have x:(k+1)*K.size<=l.length*K.size:=Nat.mul_le_mul_right _ hk;have s:(k+1)*K.size=k*K.size+K.size:=(by rw[Nat.add_mul,Nat.one_mul]);refine Kind.OH FA hBg t qD UC (by rw[u];exact hcs) ?_;apply List.ext_getElem?;intro i;have b:=K.zG;rw[List.getElem?_take];by_cases p:i<l.length*K.size
 ·rw[if_pos p,Array.getElem?_toList,v i dA,K.len];have m:i/K.size*K.size+i % K.size=i:=(by rw[Nat.mul_comm];exact Nat.div_add_mod i K.size);have d:i % K.size<K.size:=Nat.mod_lt _ b;have e:i/K.size<l.length:=(by rw[Nat.div_lt_iff_lt_mul b];exact p);have o:=K.fN (l.set k a) (i/K.size) (by simpa using e) (i % K.size) d;rw[m] at o;rw[o,List.getElem_set];by_cases j:k=i/K.size
  ·subst j;rw[if_pos rfl,if_pos ⟨by omega,by omega⟩];congr 1;omega
  ·rw[if_neg j];have f:=K.fN l (i/K.size) e (i % K.size) d;rw[m] at f;rw[<-f,<-ht,List.getElem?_take,if_pos p,if_neg ?_,Array.getElem?_toList];rintro⟨y,z⟩;apply j;have A:k<=i/K.size:=(by rw[Nat.le_div_iff_mul_le b];exact y);have C:i/K.size<k+1:=(by rw[Nat.div_lt_iff_lt_mul b];omega);omega
 ·rw[if_neg p,List.getElem?_eq_none];rw[Kind.dI,List.length_set];omega
theorem M7{w:World}{B g n c:Nat}{l:List Bool}(h:lL.Own w B (.slice (some (cA g 0)) n c) l){k:Nat}(hk:k<l.length):
 w.cell? (cA g k)=some (.bool l[k])/\w.frozen? (cA g k)=false/\∀b,lL.Own (w.setCell (cA g k) (.bool b)) B (.slice (some (cA g 0)) n c) (l.set k b):=by
 refine⟨?_,?_,fun b=>?_⟩
 ·obtain⟨m,p,f,a,_,_,_,_,i⟩:=h.slice;injection a with h1 h2 h3;subst h1;subst h2;subst h3;obtain⟨b,o,d,_,j⟩:=i.at hk;injection d with d;injection d with e1 e2 _;subst e1;subst e2;have:=j 0 _ rfl;simpa[lL] using this
 ·rcases h.form with⟨a,_⟩|⟨g',f,cur,a,_,_,_,hh,_⟩
  ·cases a
  injection a with e1;injection e1 with e1;injection e1 with e1;subst e1;simp[World.frozen?,hh]
 ·have:=K7 h hk b;have e:k*lL.size=k:=Nat.mul_one k;rw[e] at this;exact this
theorem jJ(w:World)(g k:Nat)(u:Value):iA (fun i=>i=g) w (w.setCell (cA g k) u):=iA.setCell (S:=fun i=>i=g) (p:=(cA g k)) (iA.refl _ _) (fun _=>rfl) u
theorem IZ:∀M:Nat,lL.cells (List.replicate M false)=List.replicate M (.bool false)
 |0=>rfl
 |M+1=>by
  have h:=IZ M;simp only[Kind.cells,List.replicate_succ,List.flatMap_cons] at h|-;rw[h];rfl
theorem sT{w:PW}{old:List Ol}{left:List Bool}:∀m,0<=(tB w old left m).1->∃(j:Nat) (o:Ol) (f:Bool),j<m/\(tB w old left m).1=(j:Int)/\old[j]? = some o/\left[j]? = some true/\fD w o f=true
 |0,h=>by simp[tB] at h
 |m+1,h=>by
  by_cases h0:0<=(tB w old left m).1
  ·have e:tB w old left (m+1)=tB w old left m:=(by rw[tB,if_pos h0]);obtain⟨j,o,f,h1,h2,h3⟩:=sT m h0;exact⟨j,o,f,by omega,by rw[e];exact h2,h3⟩
  ·rw[tB,if_neg h0] at h|-;split
   ·rename_i o ho hl;rw[ho,hl] at h;simp only at h|-;by_cases ht:fD w o (tB w old left m).2=true
    ·exact⟨m,o,_,by omega,by rw[if_pos ht],ho,hl,ht⟩
    ·rw[if_neg ht] at h;omega
   ·rename_i hx;exfalso;revert h;split
    ·rename_i o ho hl;exact absurd hl (hx o ho)
    ·exact h0
theorem U0{old:List Ol}:∀{ws:List PW} {s:Ms},∃r,(ws.foldl (UF old) s).take=s.take++r
 |[],s=>⟨[],by simp⟩
 |w:: ws,s=>by
  obtain⟨r,hr⟩:=U0 (old:=old) (ws:=ws) (s:=UF old s w);have e:(UF old s w).take=s.take++[(tB w old s.left old.length).1]:=by
   unfold UF;split<;>rfl
  exact⟨(tB w old s.left old.length).1:: r,by rw[List.foldl_cons,hr,e];simp⟩
theorem Ul(old:List Ol)(ws:List PW){i:Nat}(hi:i<=ws.length):(foldM old ws).take.take i=(foldM old (ws.take i)).take:=by
 have a:=(yQ old (ws.take i)).1;rw[List.length_take,Nat.min_eq_left hi] at a;have e:foldM old ws=(ws.drop i).foldl (UF old) (foldM old (ws.take i)):=by
  unfold foldM;rw[<-List.foldl_append,List.take_append_drop]
 obtain⟨r,b⟩:=U0 (old:=old) (ws:=ws.drop i) (s:=foldM old (ws.take i));rw[e,b];exact List.take_left' a
theorem take_at{old:List Ol}{ws:List PW}{i:Nat}(hi:i<ws.length):(foldM old ws).take[i]? = some (tB ws[i] old (foldM old (ws.take i)).left old.length).1:=by
 have b:=(yQ old (ws.take i)).1;rw[List.length_take,Nat.min_eq_left dA] at b;have a:=Ul old ws (i:=i+1) dA;rw[FT hi] at a;have e:(UF old (foldM old (ws.take i)) ws[i]).take=(foldM old (ws.take i)).take++[(tB ws[i] old (foldM old (ws.take i)).left old.length).1]:=by
  unfold UF;split<;>rfl
 rw[e] at a;have c:=congrArg (fun l=>l[i]?) a;rw[List.getElem?_take,if_pos dA] at c;rw[c,List.getElem?_append_right dA,b,Nat.sub_self];rfl
theorem V0{l:List In}:∀{n k:Nat},k<n->zD l n=0->zD l k=0/\RH l k=0
 |0,_,h,_=>by omega
 |n+1,k,h,hf=>by
  rw[zD] at hf;by_cases h0:zD l n=0
  ·rw[if_pos h0] at hf;by_cases e:k=n
   ·subst e;exact⟨h0,hf⟩
   ·exact V0 dA h0
  ·rw[if_neg h0] at hf;exact absurd hf h0
end P16
namespace P11
open Go.RowKit Go.ChangeShapes Go.WideShapes Go.Deep Kd P4
theorem laidOut:laidOutB prog=true:=by kernel_rfl
end P11
namespace P11
open Go.RowKit Kd P4
def EP(op:Int):Bool:=op==5 || op==6
def Xw:Prop:=∀(i:In) (w:World),i.a.size<=100000->i.b.size<=100000->jA 198 #[.agg #[aA i.op,bA i.a,bA i.b]] w fun e w'=>e= .returned (.bool (UB i))/\fA w w'
def yv:Prop:=∀(op:Int) (w:World),jA 249 #[aA op] w fun e w'=>e= .returned (.bool (EP op))/\fA w w'
theorem bF{a w w5:World}(b5:fA w w5)(h:fA a w):fA a w5:=h.trans (b5.mono h.size)
theorem cH{B:Nat}{a w:World}(h:Below B a w)(n:Nat):Below B a (w.drewN n):=⟨h.os,h.tape,h.output,h.size,h.block⟩
theorem QC{B:Nat}{a w:World}(h:Below B a w):Below B a w.drew:=⟨h.os,h.tape,h.output,h.size,h.block⟩
theorem Ft(s:qA)(w:World){r:Bool}(h:P1.JC s.data.toList=r)(hs:s.size<=maxLen):jA 195 #[bA s] w fun e w'=>e= .returned (.bool r)/\w=w':=by
 subst h;exact P1.ZO s w hs
theorem Nb(s:qA)(w:World){r:Bool}(h:P1.yC s.data.toList=r)(hs:s.size<=maxLen):jA 194 #[bA s] w fun e w'=>e= .returned (.bool r)/\w=w':=by
 subst h;exact P1.dN s w hs
theorem iJ(s:qA)(w:World){r:Bool}(h:P1.dC s.data.toList=r):jA 129 #[bA s] w fun e w'=>e= .returned (.bool r)/\w=w':=by
 subst h;exact P1.eN s w
theorem pV:yv:=by
 intro a w;cases h1:(a==5)<;>cases h3:(a==6)<;>
  (have b:Hid (EP a=_):=Zh (by unfold EP;rw[h1,h3])
   go_enter func249,ntmps249;go_wp2_with fail;go_ret;exact⟨by rw[b.out];rfl,Ze⟩)
theorem Tc:Xw:=by
 intro i w v A;obtain⟨d,a,b⟩:=i;have v:a.size<=maxLen:=Nat.le_trans v TG;have A:b.size<=maxLen:=Nat.le_trans A TG;have j:Hid (fA w (w.alloc (.cells #[aA d,bA a,bA b] 183))):=Zh (Zb _ _);have y:Hid (XB (w.alloc (.cells #[aA d,bA a,bA b] 183)) w.heap.size ⟨d,a,b⟩):=Zh (XB.new w ⟨d,a,b⟩);obtain⟨m,p⟩:=DA (P1.JC a.data.toList);obtain⟨q,r⟩:=DA (P1.dC a.data.toList);obtain⟨z,s⟩:=DA (P1.yC a.data.toList);obtain⟨k,t⟩:=DA (P1.yC b.data.toList);have g:Hid (UB ⟨d,a,b⟩=if d=1 then m && !q&&k else if d=3 then q&&k else if d=4 then z&&b.toList.isEmpty else if d=5\/d=6 then m&&k else if d=2\/d=7\/d=8 then a.toList.isEmpty&&b.toList.isEmpty else false):=Zh (by unfold UB;simp only[p,r,s,t]);have l:Hid (∀f,jA 195 #[bA a] f fun e w'=>e= .returned (.bool m)/\f=w'):=Zh (fun f=>Ft a f p v);have n:Hid (∀f,jA 129 #[bA a] f fun e w'=>e= .returned (.bool q)/\f=w'):=Zh (fun f=>iJ a f r);have u:Hid (∀f,jA 194 #[bA a] f fun e w'=>e= .returned (.bool z)/\f=w'):=Zh (fun f=>Nb a f s v);have o:Hid (∀f,jA 194 #[bA b] f fun e w'=>e= .returned (.bool k)/\f=w'):=Zh (fun f=>Nb b f t A);clear p r s t;show jA 198 #[.agg #[aA d,bA a,bA b]] w _;go_enter func198,ntmps198;go_upto_region 1 with fail;generalize w.alloc (.cells #[aA d,bA a,bA b] 183)=W at j y|-;have J:=y.c0;have K:=y.c1;have L:=y.c2;simp only at J K L;by_cases B:d=1
 ·subst B;have c:Hid (UB ⟨1,a,b⟩=(m && !q&&k)):=Zh (by rw[g.out,if_pos rfl]);clear g;cases m
  ·go_wp2_with fail;refine PA (l _) ?_;go_wp2_with fail;go_ret;exact⟨by rw[c.out];rfl,j⟩
  cases q
  ·cases k<;>(go_wp2_with fail;refine PA (l _) ?_;go_wp2_with fail;refine PA (n _) ?_;go_wp2_with fail;refine PA (o _) ?_;go_wp2_with fail;go_ret;exact⟨by rw[c.out];rfl,j⟩)
  ·go_wp2_with fail;refine PA (l _) ?_;go_wp2_with fail;refine PA (n _) ?_;go_wp2_with fail;go_ret;exact⟨by rw[c.out];rfl,j⟩
 by_cases C:d=3
 ·subst C;have c:Hid (UB ⟨3,a,b⟩=(q&&k)):=Zh (by rw[g.out,if_neg pA,if_pos rfl]);clear g;cases q
  ·go_wp2_with fail;refine PA (n _) ?_;go_wp2_with fail;go_ret;exact⟨by rw[c.out];rfl,j⟩
  ·cases k<;>(go_wp2_with fail;refine PA (n _) ?_;go_wp2_with fail;refine PA (o _) ?_;go_wp2_with fail;go_ret;exact⟨by rw[c.out];rfl,j⟩)
 by_cases D:d=4
 ·subst D;have c:Hid (UB ⟨4,a,b⟩=(z&&b.toList.isEmpty)):=Zh (by rw[g.out,if_neg pA,if_neg pA,if_pos rfl]);clear g;cases bE:b.toList.isEmpty<;>rw[bE] at c<;>cases z<;>
   (go_wp2_with fail;refine PA (u _) ?_;go_wp2_with fail;go_ret;exact⟨by rw[c.out];rfl,j⟩)
 by_cases E:d=5
 ·subst E;have c:Hid (UB ⟨5,a,b⟩=(m&&k)):=Zh (by rw[g.out,if_neg pA,if_neg pA,if_neg pA,if_pos pA]);clear g;cases m
  ·go_wp2_with fail;refine PA (l _) ?_;go_wp2_with fail;go_ret;exact⟨by rw[c.out];rfl,j⟩
  ·cases k<;>(go_wp2_with fail;refine PA (l _) ?_;go_wp2_with fail;refine PA (o _) ?_;go_wp2_with fail;go_ret;exact⟨by rw[c.out];rfl,j⟩)
 by_cases F:d=6
 ·subst F;have c:Hid (UB ⟨6,a,b⟩=(m&&k)):=Zh (by rw[g.out,if_neg pA,if_neg pA,if_neg pA,if_pos pA]);clear g;cases m
  ·go_wp2_with fail;refine PA (l _) ?_;go_wp2_with fail;go_ret;exact⟨by rw[c.out];rfl,j⟩
  ·cases k<;>(go_wp2_with fail;refine PA (l _) ?_;go_wp2_with fail;refine PA (o _) ?_;go_wp2_with fail;go_ret;exact⟨by rw[c.out];rfl,j⟩)
 by_cases G:d=2
 ·subst G;have c:Hid (UB ⟨2,a,b⟩=(a.toList.isEmpty&&b.toList.isEmpty)):=Zh (by rw[g.out,if_neg pA,if_neg pA,if_neg pA,if_neg pA,if_pos pA]);clear g l n u o;cases aE:a.toList.isEmpty<;>cases bE:b.toList.isEmpty<;>rw[aE,bE] at c<;>(go_wp2_with fail;go_ret;exact⟨by rw[c.out];rfl,j⟩)
 by_cases H:d=7
 ·subst H;have c:Hid (UB ⟨7,a,b⟩=(a.toList.isEmpty&&b.toList.isEmpty)):=Zh (by rw[g.out,if_neg pA,if_neg pA,if_neg pA,if_neg pA,if_pos pA]);clear g l n u o;cases aE:a.toList.isEmpty<;>cases bE:b.toList.isEmpty<;>rw[aE,bE] at c<;>(go_wp2_with fail;go_ret;exact⟨by rw[c.out];rfl,j⟩)
 by_cases I:d=8
 ·subst I;have c:Hid (UB ⟨8,a,b⟩=(a.toList.isEmpty&&b.toList.isEmpty)):=Zh (by rw[g.out,if_neg pA,if_neg pA,if_neg pA,if_neg pA,if_pos pA]);clear g l n u o;cases aE:a.toList.isEmpty<;>cases bE:b.toList.isEmpty<;>rw[aE,bE] at c<;>(go_wp2_with fail;go_ret;exact⟨by rw[c.out];rfl,j⟩)
 have c:Hid (UB ⟨d,a,b⟩=false):=Zh (by rw[g.out];simp[B,G,C,D,E,F,H,I]);have M:=int_ne B;have N:=int_ne G;have O:=int_ne C;have P:=int_ne D;have Q:=int_ne E;have R:=int_ne F;have S:=int_ne H;have T:=int_ne I;clear g l n u o;go_wp2_with fail;go_ret;exact⟨by rw[c.out];rfl,j⟩
end P11
namespace P13
open Go.RowKit Kd P4
theorem Jt:(prog.info? 9).map (fun i=>(i.zero,i.size,i.bytes))=some (some (oA),1,16):=by kernel_rfl
def uI:Kind prog qA where
 t:=304
 e:=9
 size:=1
 bytes:=16
 z:=oA
 cs:=fun s=>[bA s]
 ht:=underlying304
 info:=LH Jt
 zH:=rfl
 zG:=by decide
 BH:=by decide
 len:=fun _=>rfl
 one:=fun a u hu=>by simp at hu;subst hu;rfl
theorem j9{w:World}{B:Nat}{A:vA}{l:List qA}(h:uI.AA w B A l){k:Nat}(hk:k<l.length):∃b o,A=some (cA b o)/\b<B/\w.cell? ⟨b,o+k,none⟩=some (bA l[k]):=by
 obtain⟨b,o,a,c,d⟩:=h.at hk;refine⟨b,o,a,c,?_⟩;have:=d 0 _ rfl;rw[show k*uI.size+0=k from Nat.mul_one k] at this;exact this
theorem toList_inj{s t:qA}(h:s.toList=t.toList):s=t:=by
 rw[ByteArray.toList_eq,ByteArray.toList_eq] at h;cases s;cases t;simp only[Array.toList_inj] at h;subst h;rfl
theorem Vc{s t:qA}(h:s≠t):(s.toList==t.toList)=false:=beq_eq_false_iff_ne.2 (fun e=>h (toList_inj e))
theorem zv{s t:qA}(h:s=t):(s.toList==t.toList)=true:=by subst h;exact beq_self_eq_true _
theorem Sh(l:List qA)(t:qA)(A:vA)(n c:Nat)(w:World)(hn:l.length=n)(hn2:n<=1000000)(ht:t∈l)(H:uI.AA w w.heap.size A l):
 jA 273 #[.slice A n c,bA t] w fun e w'=>(∃k:Nat,e= .returned (aA k))/\w=w':=by
 have p:=Zh H;have g:=Zh hn;have q:=Zh ht;clear H hn ht;go_enter func273,ntmps273;go_wp2_with fail;go_loop [8] (fun i=>∃k:Nat,k<=n/\i = aA k/\Hid (∀j (h:j<l.length),j<k->l[j]≠t)) (fun i=>n-(intOf i).toNat)
 case atStart=>exact⟨0,by omega,rfl,Zh (fun j _ h=>by omega)⟩
 case round=>
  obtain⟨k,y,rfl,m⟩:=hrel;by_cases r:k<n
  ·have d:k<l.length:=(IA g.out);obtain⟨b,o,rfl,z,B⟩:=j9 p d;by_cases a:t=l[k]
   ·have s:(t.toList==l[k].toList)=true:=zv a;clear a;go_wp2;go_ret;exact⟨⟨k,rfl⟩,rfl⟩
   ·have s:(t.toList==l[k].toList)=false:=Vc a;have u:=Zh a;clear a;go_wp2;go_round
    case rel=>
     refine⟨k+1,by omega,by go_num,Zh (fun j f v=>?_)⟩;by_cases e:j=k
     ·subst e;exact fun x=>u x.symm
     ·exact m j f dA
    case measure=>simp[intOf];omega
  ·exfalso;obtain⟨j,f,e⟩:=List.mem_iff_getElem.1 q;exact m j f (IA g.out) e
theorem Gk(l:List qA)(t:qA)(A:vA)(n c:Nat)(w:World)(hn:l.length=n)(hn2:n<=1000000)(ht:t∉l)(H:uI.AA w w.heap.size A l):
 jA 273 #[.slice A n c,bA t] w fun e w'=>e= .returned (aA (-1))/\w=w':=by
 have d:=Zh H;have f:=Zh hn;have g:=Zh ht;clear H hn ht;go_enter func273,ntmps273;go_wp2_with fail;go_loop [8] (fun i=>∃k:Nat,k<=n/\i = aA k) (fun i=>n-(intOf i).toNat)
 case atStart=>exact⟨0,by omega,rfl⟩
 case round=>
  obtain⟨k,m,rfl⟩:=hrel;by_cases j:k<n
  ·have a:k<l.length:=(IA f.out);obtain⟨b,o,rfl,p,q⟩:=j9 d a;have r:(t.toList==l[k].toList)=false:=Vc (fun e=>g (e▸List.getElem_mem a));go_wp2;go_round
   case rel=>exact⟨k+1,by omega,by go_num⟩
   case measure=>simp[intOf];omega
  ·go_wp2;go_ret;exact⟨rfl,rfl⟩
theorem fX(l:List qA)(t:qA)(A:vA)(n c:Nat)(w:World){r:Bool}(hr:r=true↔t∈l)(hn:l.length=n)(hn2:n<=1000000)(H:uI.AA w w.heap.size A l):
 jA 266 #[.slice A n c,bA t] w fun e w'=>e= .returned (.bool r)/\w=w':=by
 have d:=Zh H;have f:=Zh hn;clear H hn;by_cases a:t∈l
 ·have b:=Zh a;obtain rfl:r=true:=hr.2 a;clear a hr;go_enter func266,ntmps266;go_wp2_with fail;refine(Sh l t A n c w f hn2 b d).mono ?_;rintro e w' ⟨⟨k,rfl⟩,rfl⟩;have g:(0:Int)<=(k:Int):=dA;go_wp2_with fail;go_ret;exact⟨rfl,rfl⟩
 ·have b:=Zh a;obtain rfl:r=false:=by cases r with|true=>exact absurd (hr.1 rfl) a|false=>rfl
  clear a hr;go_enter func266,ntmps266;go_wp2_with fail;refine PA (Gk l t A n c w f hn2 b d) ?_;go_wp2_with fail;go_ret;exact⟨rfl,rfl⟩
end P13
namespace P13
open Go.RowKit Kd P4 P5 P11 P12
end P13
namespace P16
open Go.RowKit Kd P4 P5 P11 P12 P13 P14
def bG(t k:qA)(o:Ol):Bool:=bq o.tag t&&bq o.key k
def uS(t k:qA):List Ol->Nat->Int
 |[],_=>-1
 |o:: l,i=>if bG t k o then(i:Int) else uS t k l (i+1)
def MF(old:List Ol)(t k:qA)(i:Nat):Int:=uS t k (old.drop i) i
theorem Kb{old:List Ol}{t k:qA}{i:Nat}(h:old.length<=i):MF old t k i = -1:=by
 unfold MF;rw[List.drop_of_length_le h];rfl
theorem Lb{old:List Ol}{t k:qA}{i:Nat}(h:i<old.length)(hk:bG t k old[i]=true):MF old t k i=(i:Int):=by
 unfold MF;rw[List.drop_eq_getElem_cons h,uS,if_pos hk]
theorem QV{old:List Ol}{t k:qA}{i:Nat}(h:i<old.length)(hk:bG t k old[i]=false):MF old t k i=MF old t k (i+1):=by
 unfold MF;rw[List.drop_eq_getElem_cons h,uS,if_neg (by rw[hk];decide)]
theorem mR(old:List Ol)(t k:qA):∀(d i:Nat),old.length-i=d->
 (MF old t k i = -1/\∀j (h:j<old.length),i<=j->bG t k old[j]=false)\/
 ∃(j:Nat) (h:j<old.length),MF old t k i=(j:Int)/\i<=j/\bG t k old[j]=true/\∀m (h:m<old.length),i<=m->m<j->bG t k old[m]=false
 |0,i,hd=> .inl ⟨Kb dA,fun j h hj=>by omega⟩
 |d+1,i,hd=>by
  have hi:i<old.length:=dA;cases hk:bG t k old[i] with
  |true=>exact .inr ⟨i,hi,Lb hi hk,Zl,hk,fun m _ h1 h2=>by omega⟩
  |false=>
   rw[QV hi hk];rcases mR old t k d (i+1) dA with⟨h1,h2⟩|⟨j,hj,h1,h2,h3,h4⟩
   ·refine .inl ⟨h1,fun j h hj=>?_⟩;by_cases e:j=i
    ·subst e;exact hk
    ·exact h2 j h dA
   ·refine .inr ⟨j,hj,h1,by omega,h3,fun m h hm hmj=>?_⟩;by_cases e:m=i
    ·subst e;exact hk
    ·exact h4 m h dA hmj
theorem PZ{w:PW}{old:List Ol}{left:List Bool}(h:∀j:Nat,left[j]? = some true->∀o:Ol,old[j]? = some o->∀f,fD w o f=false):∀m,(tB w old left m).1 = -1
 |0=>rfl
 |m+1=>by
  have ih:=PZ h m;rw[tB,if_neg dA];split
  ·rename_i o ho hl;simp only;rw[h m hl o ho,if_neg pA]
  ·exact ih
theorem fT{w:PW}{old:List Ol}{left:List Bool}{n:Nat}(h:∀j:Nat,j<n->left[j]? = some true->∀o:Ol,old[j]? = some o->∀f,fD w o f=false):∀m,m<=n->(tB w old left m).1 = -1
 |0,_=>rfl
 |m+1,hm=>by
  have ih:=fT h m dA;rw[tB,if_neg dA];split
  ·rename_i o ho hl;simp only;rw[h m dA hl o ho,if_neg pA]
  ·exact ih
theorem Kh{w:PW}{old:List Ol}{left:List Bool}{j m:Nat}{o:Ol}(h:∀i:Nat,i<j->left[i]? = some true->∀o:Ol,old[i]? = some o->∀f,fD w o f=false)(hl:left[j]? = some true)(ho:old[j]? = some o)(ht:∀f,fD w o f=true)(hm:j<m):
 (tB w old left m).1=(j:Int):=by
 have b:=fT h j Zl;have a:(tB w old left (j+1)).1=(j:Int):=by
  rw[aY dA ho hl,ht];rfl
 obtain⟨d,rfl⟩:∃d,m=j+1+d:=⟨m-(j+1),by omega⟩;rw[rT dA d,a]
theorem OO{w:PW}{old:List Ol}{left:List Bool}{n:Nat}(h:∀i:Nat,i<n->left[i]? = some false):∀m,m<=n->tB w old left m=(-1,true)
 |0,_=>rfl
 |m+1,hm=>by
  have ih:=OO (w:=w) (old:=old) h m dA;rw[Fg (by rw[ih];decide) (h m dA),ih]
theorem QZ{w:PW}{old:List Ol}{left:List Bool}{m:Nat}(hw:∀o,fD w o false=false)(h:tB w old left m=(-1,false)):∀j,tB w old left (m+j)=(-1,false)
 |0=>h
 |j+1=>by
  have ih:=QZ hw h j;rw[<-Nat.add_assoc,tB,if_neg (by rw[ih];decide)];split
  ·rename_i o ho hl;rw[ih,hw,if_neg pA]
  ·exact ih
theorem UT{w:PW}{old:List Ol}{left:List Bool}{F n:Nat}{o:Ol}(hw:∀o,fD w o false=false)(h:∀i:Nat,i<F->left[i]? = some false)(hl:left[F]? = some true)(ho:old[F]? = some o)(hn:F<n):
 (tB w old left n).1=if fD w o true then(F:Int) else -1:=by
 have b:=OO (w:=w) (old:=old) h F Zl;have a:tB w old left (F+1)=(if fD w o true then(F:Int) else -1,false):=by
  rw[aY (by rw[b];decide) ho hl,b]
 obtain⟨d,rfl⟩:∃d,n=F+1+d:=⟨n-(F+1),by omega⟩;cases ht:fD w o true with
 |true=>
  rw[ht] at a;simp only[if_true] at a|-;rw[rT (by rw[a];simp) d,a]
 |false=>
  rw[ht] at a;simp only[Bool.false_eq_true,if_false] at a|-;rw[QZ hw a d]
theorem sU{w:PW}(h1:w.kind=1)(hk:w.key.toList.isEmpty=false)(o:Ol)(f:Bool):fD w o f=bG w.tag w.key o:=by
 unfold fD bG;rw[if_pos h1,hk];simp
theorem wT{w:PW}(h:¬(w.kind=1/\w.key.toList.isEmpty=false))(o:Ol):fD w o false=false:=by
 unfold fD;split
 ·rename_i h1;cases hk:w.key.toList.isEmpty with
  |false=>exact absurd ⟨h1,hk⟩ h
  |true=>simp
 ·split
  ·rfl
  ·split<;>rfl
theorem VT{left:List Bool}{q:Nat}:∀d,(∀i,q<=i->i<q+d->left[i]? = some false)->q+d<=left.length->TF left (q+d)=TF left q/\yF left (q+d)=yF left q
 |0,_,_=>⟨rfl,rfl⟩
 |d+1,h,hl=>by
  have ih:=VT d (fun i h1 h2=>h i h1 dA) dA;have hf:=h (q+d) dA dA;rw[<-Nat.add_assoc,<-Fi dA hf,Aq hf];exact ih
theorem RZ{left:List Bool}{q i:Nat}(h:q<=i)(hl:q<=left.length):(TF left q)[i]? = left[i]?:=by
 unfold TF;rw[List.getElem?_append_right (by simpa using h),List.length_replicate,List.getElem?_drop];congr 1;omega
theorem Ro{left:List Bool}{q i:Nat}(h:i<q)(hl:q<=left.length):(TF left q)[i]? = some false:=by
 unfold TF;rw[List.getElem?_append_left (by simpa using h),List.getElem?_replicate,if_pos h]
theorem SR{t k:qA}{o:Ol}:bG t k o=true↔o.tag=t/\o.key=k:=by
 have e:∀a b:qA,a.toList=b.toList↔a=b:=fun a b=>⟨fun h=>by
  rw[ByteArray.toList_eq,ByteArray.toList_eq] at h;obtain⟨⟨a⟩⟩:=a;obtain⟨⟨b⟩⟩:=b;simp only at h;rw[h],fun h=>by rw[h]⟩
 unfold bG bq;rw[Bool.and_eq_true,beq_iff_eq,beq_iff_eq,e,e]
end P16
namespace P20
open P5 P11 P12 P13 P14 P16
end P20
set_option linter.unusedVariables false
set_option linter.unusedSimpArgs false
set_option maxRecDepth 100000
open Go.RowKit
abbrev pL(t:P14.WV):Array Value:=#[.int .i64 t.kind,.string t.tag,.string t.key,.string t.txt,.slice t.sa.A t.sa.n t.sa.c,.slice t.sk.A t.sk.n t.sk.c]
namespace P12
open Go.RowKit Kd P4 P5 P11
def aQ(w:World)(p:List In×Nat)(e:Ending)(w':World):Prop:=∃(A:vA) (n c:Nat),e= .returned (.tuple #[.slice A n c,QA (p.2:Nat)])/\p.1.length=n/\n<=c/\c<=maxLen/\(A=none->c=0)/\kX.AA w' w'.heap.size A p.1/\fA w w'
def fL:Prop:=∀(b:uA) (A:vA) (n c:Nat) (w:World),kB.AA w w.heap.size A b->b.length=n->n<=c->c<=maxLen->n<=100000->jA 167 #[.slice A n c] w (aQ w (fB b))
theorem Vr{w:World}{D:Nat}{A:vA}{n c:Nat}{l:List In}(h:kX.Own w D (.slice A n c) l):l.length=n/\n<=c/\c<=maxLen/\(A=none->c=0)/\kX.AA w w.heap.size A l:=by
 obtain⟨i,j,k,a,b,d,e,f,g⟩:=h.slice;injection a with h1 h2 h3;subst h1;subst h2;subst h3;exact⟨b,d,e,f,g⟩
end P12
namespace P12
open Go.RowKit Go.ChangeShapes Go.WideShapes Go.Deep Kd P4 P11
end P12
end Go.Proofs.YtimfajmknmlajaaGreatDoor
