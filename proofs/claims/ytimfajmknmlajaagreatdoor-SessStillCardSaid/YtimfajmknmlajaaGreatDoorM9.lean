/- A part of the proof. No condition. -/
import Derived.Deep.RegionHeld3
import Derived.Deep.Cut
import Derived.Deep.DeepCutAuto
import Derived.Deep.CutBlock
import Derived.Deep.DrawnRows
import Derived.Test.YtimfajmknmlajaaGreatDoorM1
import Derived.Test.YtimfajmknmlajaaGreatDoorM3
import Derived.Test.YtimfajmknmlajaaGreatDoorM4
import Derived.Test.YtimfajmknmlajaaGreatDoorM5
import Derived.Test.YtimfajmknmlajaaGreatDoorM6
set_option linter.unusedVariables false
set_option linter.unusedSimpArgs false
set_option maxRecDepth 100000
set_option maxHeartbeats 40000000
namespace Go.Proofs.YtimfajmknmlajaaGreatDoor
open Go.Proofs.Tryz
namespace P5
open Go.RowKit Kd P4
variable{B p q:Nat}{x:Dx}
end P5
namespace P14
open Go.RowKit Kd P4 P5 P11 P12 P13
theorem oo{t:WV}{l:List WV}(h:t∈l):cD (yA t.kids)+1<=cD (yA l):=by
 have a:=XU (l:=yA l) (t:=er t) (by rw[nC];exact List.mem_map_of_mem h);rw[aF,pF] at a;omega
theorem Nj(t:WV):pG (er t)=if t.kind=2 then 1 else if t.kind=1 then 1+xB (yA t.kids) else 0:=by rw[aF,pG]
end P14
namespace P16
open Go.RowKit Kd P4 P5 P11 P12 P13 P14
end P16
namespace P9
open Go.RowKit Kd P4 P5 P8
def uJ(a:P3.At):uA:=32:: (a.nm.data.toList++61:: 34:: (P2.SA a.vl.data.toList++[34]))
def EB(l:List P3.At):uA:=l.flatMap uJ
mutual
def wC:PT->uA
 | .mk tag txt _ attrs kids=>
   if tag.toList.isEmpty then P2.SA txt.data.toList
   else 60:: (tag.data.toList++(EB attrs++62:: (if P1.dC tag.data.toList then[] else dB kids++60:: 47:: (tag.data.toList++[62]))))
def dB:List PT->uA
 |[]=>[]
 |a:: l=>wC a++dB l
end
theorem vT:∀l m:List PT,dB (l++m)=dB l++dB m
 |[],m=>by simp[dB]
 |a:: l,m=>by simp[dB,vT l m]
mutual
def jL:PT->Bool
 | .mk _ _ key attrs kids=>key.toList.isEmpty&&attrs.all (fun a=>!a.st)&&YH kids false
def YH:List PT->Bool->Bool
 |[],_=>true
 | a:: l,prev=>jL a&&(!a.tag.toList.isEmpty || (!a.txt.toList.isEmpty && !prev))&&YH l a.tag.toList.isEmpty
end
def Stop(p:UInt8->Bool)(u:uA):Prop:=u=[]\/∃c r,u=c:: r/\p c=false
theorem EN{l:uA}(h:P1.JC l=true):l≠[]/\∀c∈l,P1.AG c=true:=by
 cases l with
 |nil=>simp[P1.JC] at h
 |cons c r=>
  obtain⟨_,a,b⟩:=P1.yT h;refine⟨by simp,fun x hx=>?_⟩;rcases List.mem_cons.1 hx with rfl|hx
  ·exact P1.NU a
  ·exact List.all_eq_true.1 b x hx
theorem rM{c:UInt8}(h:P1.AG c=true):c≠32/\c≠62/\c≠61/\c≠47/\c≠60:=by
 refine⟨?_,?_,?_,?_,?_⟩<;>(rintro rfl;revert h;decide)
def Ends(s:uA):Prop:=s=[]\/∃r,s=60:: 47:: r
theorem Hf{l:List PT}{s:uA}(h:YH l true=true)(hs:Ends s):Stop (fun c=>c != 60) (dB l++s):=by
 cases l with
 |nil=>
  rcases hs with rfl|⟨r,rfl⟩
  ·exact .inl rfl
  ·exact .inr ⟨60,_,rfl,by decide⟩
 |cons a l=>
  cases a with
  |mk tag txt key attrs kids=>
   rw[YH] at h;simp only[Bool.and_eq_true,Bool.not_true,Bool.and_false,Bool.or_false,Bool.not_eq_true'] at h;have b:tag.toList.isEmpty=false:=h.1.2;rw[dB,wC,b];exact .inr ⟨60,_,rfl,by decide⟩
theorem FV{x:uA}(h:x≠[]):P2.SA x≠[]:=by
 cases x with
 |nil=>exact absurd rfl h
 |cons c r=>
  have:=(P2.ZM c).1;intro e;have a:=congrArg List.length e;simp[P2.SA] at a;rw[a.1] at this;simp at this
theorem I6{tag:qA}(h:P1.JC tag.data.toList=true):∃c r,tag.data.toList=c:: r/\c≠47:=by
 obtain⟨a,b⟩:=EN h;cases e:tag.data.toList with
 |nil=>exact absurd e a
 |cons c r=>exact⟨c,r,rfl,(rM (b c (by rw[e];simp))).2.2.2.1⟩
theorem yj{a:P3.At}(h:P3.eM a=true):(uJ a).length<=1000:=by
 unfold P3.eM at h;simp only[Bool.and_eq_true,decide_eq_true_eq] at h;have b:=P2.rN a.vl.data.toList;have c:a.nm.data.toList.length=a.nm.size:=FA;have d:a.vl.data.toList.length=a.vl.size:=FA;simp only[uJ,List.length_cons,List.length_append,List.length_nil];omega
theorem pY:∀{l:List P3.At},l.all P3.eM=true->(EB l).length<=1000*l.length
 |[],_=>by simp[EB]
 |a:: l,h=>by
  rw[List.all_cons,Bool.and_eq_true] at h;have h1:=yj h.1;have h2:=pY h.2;simp only[EB,List.flatMap_cons,List.length_append,List.length_cons] at h2|-;omega
theorem rh{l:List P3.At}(h:P3.dK l=true):(EB l).length<=20000:=by
 unfold P3.dK at h;simp only[Bool.and_eq_true,decide_eq_true_eq] at h;have:=pY h.2;omega
theorem Ce(l:List P3.At)(k:Nat):(EB (l.take k)).length<=(EB l).length:=by
 have e:EB l=EB (l.take k)++EB (l.drop k):=(by unfold EB;rw[<-List.flatMap_append,List.take_append_drop]);rw[e,List.length_append];omega
theorem Jf{l:List P3.At}{k:Nat}(h:k<l.length):EB (l.take (k+1))=EB (l.take k)++uJ l[k]:=by
 rw[List.take_add_one,List.getElem?_eq_getElem h];unfold EB;rw[List.flatMap_append];simp
theorem zj{l:List PT}{k:Nat}(h:k<l.length):dB (l.take (k+1))=dB (l.take k)++wC l[k]:=by
 rw[List.take_add_one,List.getElem?_eq_getElem h,vT];simp[dB]
theorem Ue(l:List PT)(k:Nat):(dB (l.take k)).length<=(dB l).length:=by
 have e:dB l=dB (l.take k)++dB (l.drop k):=(by rw[<-vT,List.take_append_drop]);rw[e,List.length_append];omega
theorem Wa:∀{l:List PT},(∀t∈l,(wC t).length<=30000*countP t)->(dB l).length<=30000*cB l
 |[],_=>by simp[dB]
 |a:: l,h=>by
  have h1:=h a FA;have h2:=Wa (l:=l) (fun t ht=>h t (by simp[ht]));rw[dB,cB,List.length_append];omega
theorem Cn(t:PT):JG t=true->(wC t).length<=30000*countP t:=by
 induction t using PT.ind with
 |h tag txt key attrs kids ih=>
  intro a;rw[JG] at a;simp only[Bool.and_eq_true,decide_eq_true_eq] at a;obtain⟨⟨⟨⟨e,f⟩,g⟩,d⟩,b⟩:=a;rw[UO,List.all_eq_true] at b;have i:=Wa (fun t c=>ih t c (b t c));have j:=rh d;have k:=P2.rN txt.data.toList;have l:tag.data.toList.length=tag.size:=FA;have m:txt.data.toList.length=txt.size:=FA;rw[wC,countP];split
  ·omega
  ·simp only[List.length_cons,List.length_append];split
   ·simp;omega
   ·simp only[List.length_cons,List.length_append,List.length_nil];omega
def fG(tag:uA)(attrs:List P3.At):uA:=60:: (tag++(EB attrs++[62]))
theorem NO{tag txt key:qA}{attrs:List P3.At}{kids:List PT}(h:tag.toList.isEmpty=true):wC (.mk tag txt key attrs kids)=P2.SA txt.data.toList:=by rw[wC,if_pos h]
theorem aN{tag txt key:qA}{attrs:List P3.At}{kids:List PT}(h:tag.toList.isEmpty=false)(hv:P1.dC tag.data.toList=true):wC (.mk tag txt key attrs kids)=fG tag.data.toList attrs:=by rw[wC,if_neg (by simp[h]),hv];rfl
theorem IK{tag txt key:qA}{attrs:List P3.At}{kids:List PT}(h:tag.toList.isEmpty=false)(hv:P1.dC tag.data.toList=false):wC (.mk tag txt key attrs kids)=fG tag.data.toList attrs++(dB kids++60:: 47:: (tag.data.toList++[62])):=by
 rw[wC,if_neg (by simp[h]),hv];simp[fG]
end P9
namespace P14
open Go.RowKit Kd P4 P5 P11 P12 P13
attribute [local go_sem ↓] Go.wp_at_zero Go.wp_at_succ
def zB:qA:=⟨#[]⟩
section
variable{w w':World}{g:Nat}{tag key:qA}{A A2:vA}{n c n2 k2:Nat}
end
section
variable{K:Kind prog WV}{w w':World}{C D:Nat}{Q R S:Nat->Prop}{t:WV}
end
end P14
namespace P10
open Go.RowKit Kd P4 P5 P8 P9
def bs(l:uA):qA:=⟨l.toArray⟩
theorem sH(l:uA):(bs l).data.toList=l:=by simp[bs]
theorem PH(b:qA):bs b.data.toList=b:=by
 apply ByteArray.ext;simp[bs]
theorem QH{b:qA}(h:b.toList.isEmpty=true):b=⟨#[]⟩:=by
 rw[ByteArray.toList_eq,List.isEmpty_iff] at h;apply ByteArray.ext;apply Array.toList_inj.1;simpa using h
def kD(s signs:uA):Nat:=(s.takeWhile (fun c=>!signs.contains c)).length
theorem sN(s g:uA):kD s g<=s.length:=(List.takeWhile_sublist _).length_le
theorem sZ{c:UInt8}{s g:uA}(h:g.contains c=true):kD (c:: s) g=0:=by rw[kD,List.takeWhile_cons,if_neg (by rw[h];decide)];rfl
theorem VO{c:UInt8}{s g:uA}(h:g.contains c=false):kD (c:: s) g=kD s g+1:=by rw[kD,List.takeWhile_cons,if_pos (by rw[h];rfl)];rfl
theorem RJ:∀{x u g:uA},(∀c∈x,g.contains c=false)->Stop (fun c=>!g.contains c) u->kD (x++u) g=x.length
 |[],u,g,_,hu=>by
  rcases hu with rfl|⟨c,r,rfl,hc⟩
  ·rfl
  ·exact sZ (by simpa using hc)
 |c:: x,u,g,hx,hu=>by
  rw[List.cons_append,VO (hx c FA),RJ (fun d hd=>hx d (by simp[hd])) hu];rfl
def GG(l:uA):uA:=(P2.EM l).getD []
theorem KQ(l:uA):GG (P2.SA l)=l:=by rw[GG,P2.Bn];rfl
def xG(l:uA):PT:=.mk ⟨#[]⟩ (bs l) ⟨#[]⟩ [] []
def rG(tag:uA)(attrs:List P3.At)(kids:List PT):PT:=.mk (bs tag) ⟨#[]⟩ ⟨#[]⟩ attrs kids
def fH:Nat->uA->List P3.At->List P3.At×Option (uA)
 |0,_,acc=>(acc,none)
 |f+1,s,acc=>
  if s.head? = some 32 then
   let n:=kD s [61]
   let nm:=(s.take n).drop 1
   let r:=s.drop n
   if r.length<2 then(acc,none)
   else
    let r2:=r.drop 2
    let k:=kD r2 [34]
    let a:P3.At:=⟨bs nm,bs (GG (r2.take k)),false⟩
    if k=r2.length then(acc++[a],none) else fH f (r2.drop (k+1)) (acc++[a])
  else(acc,some s)
def ZH(g:Nat->uA->List PT×uA)(d:Nat)(s:uA):PT×uA:=
 let n:=kD s [32,62]
 let tag:=(s.take n).drop 1
 let r:=s.drop n
 match fH (r.length+1) r [] with
 |(ats,none)=>(rG tag ats [],[])
 |(ats,some [])=>(rG tag ats [],[])
 |(ats,some (_:: r2))=>
  if P1.dC tag then(rG tag ats [],r2)
  else
   let p:=g (d+1) r2
   if p.2.length<tag.length+3 then(rG tag ats p.1,[]) else(rG tag ats p.1,p.2.drop (tag.length+3))
def gF:Nat->Nat->uA->List PT->List PT×uA
 |0,_,s,acc=>(acc,s)
 |f+1,d,s,acc=>
  if s=[]\/200<d then(acc,s)
  else if s.head? = some 60 then
   if(s.drop 1).head? = some 47 then(acc,s)
   else
    let p:=ZH (fun d s=>gF f d s []) d s
    if s.length<=p.2.length then(acc++[p.1],[]) else gF f d p.2 (acc++[p.1])
  else
   let n:=kD s [60]
   gF f d (s.drop n) (acc++[xG (GG (s.take n))])
mutual
def SP:PT->Nat
 | .mk tag _ _ _ kids=>if tag.toList.isEmpty then yH kids else yH kids+1
def yH:List PT->Nat
 |[]=>0
 |a:: l=>max (SP a) (yH l)
end
theorem tZ:∀(ats:List P3.At) (f:Nat) (v:uA) (acc:List P3.At),(∀a∈ats,P1.JC a.nm.data.toList=true/\a.st=false)->ats.length<f->fH f (EB ats++62:: v) acc=(acc++ats,some (62:: v))
 |[],f,v,acc,_,hf=>by
  obtain⟨f,rfl⟩:∃g,f=g+1:=⟨f-1,by simp at hf;omega⟩;rw[fH,if_neg (by simp[EB])];simp[EB]
 |a:: ats,f,v,acc,ha,hf=>by
  obtain⟨f,rfl⟩:∃g,f=g+1:=⟨f-1,by omega⟩;have h1:=EN (ha a FA).1;have e:EB (a:: ats)++62:: v=(32:: a.nm.data.toList)++(61:: 34:: (P2.SA a.vl.data.toList++(34:: (EB ats++62:: v)))):=(by simp[EB,uJ]);rw[e];have u1:kD ((32:: a.nm.data.toList)++(61:: 34:: (P2.SA a.vl.data.toList++(34:: (EB ats++62:: v))))) [61]=(32:: a.nm.data.toList).length:=RJ (fun c hc=>by
   rcases List.mem_cons.1 hc with rfl|hc
   ·decide
   ·have:=(rM (h1.2 c hc)).2.2.1;simpa using this) (.inr ⟨61,_,rfl,by decide⟩)
  have u2:kD (P2.SA a.vl.data.toList++(34:: (EB ats++62:: v))) [34]=(P2.SA a.vl.data.toList).length:=RJ (fun c hc=>by
   have:=(P2.tL hc).2.2;simpa using this) (.inr ⟨34,_,rfl,by decide⟩)
  rw[fH,if_pos FA,u1];simp only[List.take_left,List.drop_left];rw[if_neg FA];simp only[List.drop_succ_cons,List.drop_zero];rw[u2,if_neg FA];simp only[List.take_left];rw[show(P2.SA a.vl.data.toList++(34:: (EB ats++62:: v))).drop ((P2.SA a.vl.data.toList).length+1)=EB ats++62:: v by rw[<-List.drop_drop,List.drop_left];rfl];rw[KQ,PH,PH,tZ ats f v _ (fun b hb=>ha b (by simp[hb])) (by simp at hf;omega)];have e2:(⟨a.nm,a.vl,false⟩:P3.At)=a:=(by rw[<-(ha a FA).2]);rw[e2];simp
theorem J6{ats:List P3.At}(h1:P3.kC ats=true)(h2:ats.all (fun a=>!a.st)=true):∀a∈ats,P1.JC a.nm.data.toList=true/\a.st=false:=fun a b=>⟨((P3.AI.1 h1).2.1 a b).1,by have:=List.all_eq_true.1 h2 a b;simpa using this⟩
theorem bT:∀ats:List P3.At,ats.length<=(EB ats).length
 |[]=>by simp
 |a:: ats=>by
  have:=bT ats;simp only[EB,List.flatMap_cons,uJ,List.length_append,List.length_cons] at this|-;omega
theorem Du{g:Nat->uA->List PT×uA}{d:Nat}{tag txt key:qA}{attrs:List P3.At}{kids:List PT}{u:uA}(ht:tag.toList.isEmpty=false)(hm:iC (.mk tag txt key attrs kids)=true)(hp:jL (.mk tag txt key attrs kids)=true)
 (hg:P1.dC tag.data.toList=false->g (d+1) (dB kids++60:: 47:: (tag.data.toList++62:: u))=(kids,60:: 47:: (tag.data.toList++62:: u))):ZH g d (wC (.mk tag txt key attrs kids)++u)=(.mk tag txt key attrs kids,u):=by
 rw[iC,if_neg (by simp[ht])] at hm;simp only[Bool.and_eq_true] at hm;obtain⟨⟨⟨⟨⟨l,_⟩,m⟩,n⟩,k⟩,w⟩:=hm;rw[jL,Bool.and_eq_true,Bool.and_eq_true] at hp;obtain⟨⟨o,sa⟩,_⟩:=hp;have hx:=QH n;have p:=QH o;have f:=EN l;obtain⟨v,q,b⟩:∃v,wC (.mk tag txt key attrs kids)++u=(60:: tag.data.toList)++(EB attrs++62:: v)/\v=(if P1.dC tag.data.toList then u else dB kids++60:: 47:: (tag.data.toList++62:: u)):=by
  refine⟨_,?_,rfl⟩;cases hvd:P1.dC tag.data.toList with
  |true=>rw[aN ht hvd];simp[fG]
  |false=>rw[IK ht hvd];simp[fG]
 rw[q];have s:Stop (fun c=>!([32,62]:uA).contains c) (EB attrs++62:: v):=by
  cases attrs with
  |nil=>exact .inr ⟨62,_,rfl,by decide⟩
  |cons a r=>exact .inr ⟨32,_,rfl,by decide⟩
 have t:kD ((60:: tag.data.toList)++(EB attrs++62:: v)) [32,62]=(60:: tag.data.toList).length:=RJ (fun c i=>by
  rcases List.mem_cons.1 i with rfl|i
  ·decide
  ·have:=rM (f.2 c i);simp[this]) s
 unfold ZH;simp only[t,List.take_left,List.drop_left,List.drop_succ_cons,List.drop_zero];rw[tZ attrs _ v [] (J6 m sa) (by have:=bT attrs;simp only[List.length_append,List.length_cons];omega)];simp only[List.nil_append];have e:rG tag.data.toList attrs kids= .mk tag txt key attrs kids:=(by rw[rG,PH,hx,p]);cases hvd:P1.dC tag.data.toList with
 |true=>
  rw[hvd] at b k;have j:kids=[]:=(by simpa using k);rw[if_pos rfl,<-e,j,b];simp
 |false=>
  rw[hvd,if_neg FA] at b;rw[if_neg FA,b,hg hvd];rw[if_neg FA,e];congr 1;show(60:: 47:: (tag.data.toList++62:: u)).drop (tag.data.toList.length+3)=u;rw[show 60:: 47:: (tag.data.toList++62:: u)=(60:: 47:: (tag.data.toList++[62]))++u by simp,show tag.data.toList.length+3=(60:: 47:: (tag.data.toList++[62]):uA).length by simp,List.drop_left]
theorem Dn{t:PT}(hm:iC t=true)(hx:t.tag.toList.isEmpty=true->t.txt.toList.isEmpty=false):wC t≠[]:=by
 obtain⟨tag,txt,key,attrs,kids⟩:=t;cases ht:tag.toList.isEmpty with
 |true=>
  rw[NO ht];refine FV ?_;have:=hx ht;intro e;have a:txt.toList.isEmpty=false:=this;rw[ByteArray.toList_eq,e] at a;cases a
 |false=>rw[wC,if_neg (by simp[ht])];simp
theorem Yv:∀(n:Nat) (l:List PT) (f d:Nat) (e:uA) (acc:List PT) (prev:Bool),cB l<=n->(dB l++e).length<f->gD l=true->YH l prev=true->P9.Ends e->yH l+d<=200->gF f d (dB l++e) acc=(acc++l,e):=by
 intro n
 induction n with
 |zero=>
  intro l f d e acc prev A u _ _ t _;cases l with
  |cons a l=>have:=NJ a;simp[cB] at A;omega
  |nil=>
   obtain⟨f,rfl⟩:∃g,f=g+1:=⟨f-1,by omega⟩;rw[gF];rcases t with rfl|⟨r,rfl⟩
   ·simp[dB]
   ·simp[dB]
 |succ n ih=>
  intro l f d e acc prev A u K L t M;cases l with
  |nil=>
   obtain⟨f,rfl⟩:∃g,f=g+1:=⟨f-1,by omega⟩;rw[gF];rcases t with rfl|⟨r,rfl⟩
   ·simp[dB]
   ·simp[dB]
  |cons a l=>
   obtain⟨tag,txt,key,attrs,kids⟩:=a;obtain⟨f,rfl⟩:∃g,f=g+1:=⟨f-1,by omega⟩;rw[gD,Bool.and_eq_true] at K;obtain⟨m,v⟩:=K;rw[YH,Bool.and_eq_true,Bool.and_eq_true] at L;obtain⟨⟨w,i⟩,j⟩:=L;have j:YH l tag.toList.isEmpty=true:=j;have i:(!tag.toList.isEmpty || (!txt.toList.isEmpty && !prev))=true:=i;rw[cB,countP] at A;rw[yH] at M;have x:yH l+d<=200:=dA;have N:SP (.mk tag txt key attrs kids)+d<=200:=dA;have O:dB (.mk tag txt key attrs kids:: l)++e=wC (.mk tag txt key attrs kids)++(dB l++e):=(by rw[dB,List.append_assoc]);rw[O] at u|-;have k:wC (.mk tag txt key attrs kids)≠[]:=Dn m (fun h=>by
    have h:tag.toList.isEmpty=true:=h;rw[h] at i;simp at i;simp[PT.txt,i])
   have y:0<(wC (.mk tag txt key attrs kids)).length:=List.length_pos_iff.2 k;have q:(dB l++e).length<(wC (.mk tag txt key attrs kids)++(dB l++e)).length:=by
    generalize dB l++e=z;rw[List.length_append];omega
   rw[gF,if_neg (by
    rintro(h|h)
    ·exact k (List.append_eq_nil_iff.1 h).1
    ·omega)]
   cases ht:tag.toList.isEmpty with
   |true=>
    rw[ht] at i j;rw[NO ht] at u|-;rw[NO ht] at k y q;have hx:txt.toList.isEmpty=false:=(by simp at i;simp[i]);have P:Stop (fun c=>!([60]:uA).contains c) (dB l++e):=by
     rcases Hf j t with h|⟨c,r,h,o⟩
     ·exact .inl h
     ·exact .inr ⟨c,r,h,by simpa using o⟩
    have Q:kD (P2.SA txt.data.toList++(dB l++e)) [60]=(P2.SA txt.data.toList).length:=RJ (fun c o=>by have:=(P2.tL o).1;simpa using this) P;have R:¬((P2.SA txt.data.toList++(dB l++e)).head? = some 60):=by
     intro h;obtain⟨c,r,o⟩:∃c r,P2.SA txt.data.toList=c:: r:=by
      cases h:P2.SA txt.data.toList with
      |nil=>exact absurd h k
      |cons c r=>exact⟨c,r,rfl⟩
     rw[o] at h;simp at h;exact(P2.tL (l:=txt.data.toList) (by rw[o];simp)).1 h
    rw[if_neg R];simp only[Q,List.drop_left,List.take_left,KQ];have b:=m;rw[iC,if_pos ht] at b;simp only[Bool.and_eq_true] at b;have B:kids=[]:=(by simpa using b.2);have C:attrs=[]:=(by simpa using b.1.2);have D:=QH b.1.1.2;have E:=QH ht;rw[ih l f d e _ true dA dA v j t x];rw[xG,PH,B,C,D,E];simp
   |false=>
    rw[ht] at j;have F:ZH (fun d s=>gF f d s []) d (wC (.mk tag txt key attrs kids)++(dB l++e))=(.mk tag txt key attrs kids,dB l++e):=by
     refine Du ht m w fun G=>?_
     have b:=m;rw[iC,if_neg (by simp[ht])] at b;simp only[Bool.and_eq_true] at b;have p:=w;rw[jL,Bool.and_eq_true] at p;have S:SP (.mk tag txt key attrs kids)=yH kids+1:=(by rw[SP,if_neg (by simp[ht])]);rw[IK ht G] at u;have:=ih kids f (d+1) (60:: 47:: (tag.data.toList++62:: (dB l++e))) [] false dA (by
      simp only[fG,List.length_append,List.length_cons,List.length_nil] at u|-;omega) b.2 p.2 (.inr ⟨_,rfl⟩) dA
     rw[this];simp
    have H:(wC (.mk tag txt key attrs kids)++(dB l++e)).head? = some 60:=(by rw[wC,if_neg (by simp[ht])];rfl);have I:¬(((wC (.mk tag txt key attrs kids)++(dB l++e)).drop 1).head? = some 47):=by
     have b:=m;rw[iC,if_neg (by simp[ht])] at b;simp only[Bool.and_eq_true] at b;obtain⟨c,r,o,J⟩:=I6 b.1.1.1.1.1;rw[wC,if_neg (by simp[ht]),o];simpa using J
    rw[if_pos H,if_neg I,F];simp only;rw[if_neg dA,ih l f d e _ false dA dA v j t x];simp
end P10
namespace P14
open Go.RowKit Kd P4 P5 P11 P12 P13
def WB(w:World)(g:Nat)(t:WV):Prop:=w.heap[g]? = some (.cells (pL t) 268 (0,0))
section
variable{w w':World}{g C:Nat}{t:WV}
theorem WB.new(w:World)(t:WV):WB (w.alloc (.cells (pL t) 268)) w.heap.size t:=heap_alloc_new w _
theorem WB.lt(h:WB w g t):g<w.heap.size:=JA h
theorem WB.below(h:WB w g t)(hb:Below C w w')(hC:g<C):WB w' g t:=(hb.block g hC).trans h
theorem WB.c0(h:WB w g t):w.cell? (cA g 0)=some (aA t.kind):=cell_of_row w g 0 _ _ (0,0) h
theorem WB.c1(h:WB w g t):w.cell? (cA g 1)=some (bA t.tag):=cell_of_row w g 1 _ _ (0,0) h
theorem WB.c2(h:WB w g t):w.cell? (cA g 2)=some (bA t.key):=cell_of_row w g 2 _ _ (0,0) h
theorem WB.c3(h:WB w g t):w.cell? (cA g 3)=some (bA t.txt):=cell_of_row w g 3 _ _ (0,0) h
theorem WB.c4(h:WB w g t):w.cell? (cA g 4)=some (.slice t.sa.A t.sa.n t.sa.c):=cell_of_row w g 4 _ _ (0,0) h
theorem WB.c5(h:WB w g t):w.cell? (cA g 5)=some (.slice t.sk.A t.sk.n t.sk.c):=cell_of_row w g 5 _ _ (0,0) h
theorem WB.fr(h:WB w g t)(k:Nat):w.frozen? (cA g k)=false:=by simp[World.frozen?,(show w.heap[g]? = _ from h)]
end
def MS(ts:List WV):Prop:=∀(w:World) (A:vA) (n c:Nat),kW.AA w w.heap.size A ts->ts.length=n->(∀t∈ts,oD kW w w.heap.size t)->cD (yA ts)<=1000->
 jA 169 #[.slice A n c] w fun e w'=>e= .returned (aA (xB (yA ts):Nat))/\fA w w'
theorem Y8(ts:List WV)(IH:∀t∈ts,MS t.kids):MS ts:=by
 intro w A n c G u l H;have Q:=Zh G;have R:=Zh u;have S:=Zh l;have T:=Zh IH;have v:Hid ((yA ts).length=n):=Zh (by rw[nC];simpa using u);have I:Hid (∀k,xB ((yA ts).take k)<=100000):=Zh (fun k=>by
  have q:=ua ((yA ts).take k);have r:cD (yA ts)=cD ((yA ts).take k)+cD ((yA ts).drop k):=(by rw[<-VX,List.take_append_drop]);omega)
 have U:=Zh H;have V:n<=100000:=(by have:=uR (yA ts);have:=v.out;omega);clear G u l H IH;go_enter func169,ntmps169;go_wp2_with fail;go_loopw [3,8] (fun W y wr=>∃(k:Nat),k<=n/\y = aA k/\W = aA (xB ((yA ts).take k):Nat)/\Hid (fA w wr)) (fun _ y _=>n-(intOf y).toNat)
 case atStart=>exact⟨0,by omega,rfl,by simp[xB],Zh Ze⟩
 case round=>
  obtain⟨k,hk,rfl,rfl,i⟩:=hrel;by_cases X:k<n
  ·have g:k<ts.length:=(IA R.out);have p:k<(yA ts).length:=(IA v.out);have a:=Zh (dU p);rw[LK g p,Nj] at a;have z:=I k;have f:=I (k+1);obtain⟨b,o,rfl,hb,J,K,L,M,N,O⟩:=pU (Q.on i) g;have B:Hid (∀j,fA wr j->jA 169 #[.slice ts[k].sk.A ts[k].sk.n ts[k].sk.c] j fun e w'=>e= .returned (aA (xB (yA ts[k].kids):Nat))/\fA j w'):=Zh (fun j Y=>by
    have C:=(S _ (List.getElem_mem g)).on (i.trans (Y.mono i.size));exact T _ (List.getElem_mem g) j _ _ _ C.kh C.kl C.ks (by have:=oo (List.getElem_mem g);have:=U.out;omega))
   generalize ts[k]=d at J K L M N O B a;generalize xB (yA d.kids)=dk at B a;generalize xB ((yA ts).take k)=m at a z|-;rw[a.out] at f;go_upto_region 5 with fail;have D:=Zh (WB.new wr d);have E:Hid (fA wr (wr.alloc (.cells (pL d) 268))):=Zh (Zb _ _);generalize wr.alloc (.cells (pL d) 268)=Z at D E|-;clear J K L M N O;have a0:=D.c0;have a5:=D.c5;have s:=Zh (i.trans (E.mono i.size));obtain⟨kind,F⟩:=DA d.kind;rw[F] at a0 a f;by_cases r:kind=2
   ·subst r;rw[if_pos rfl] at a f;go_wp2_with fail;go_roundw
    case rel=>exact⟨k+1,by omega,by go_num,by rw[a.out];go_num,s⟩
    case measure=>simp[intOf];omega
   ·have q2:=int_ne r;rw[if_neg r] at a f;by_cases q:kind=1
    ·subst q;rw[if_pos rfl] at a f;go_wp2_with fail;refine(B Z E).mono ?_;rintro e w2 ⟨rfl,P⟩;have B2:=Zh (s.trans (P.mono s.size));clear P;go_wp2_with fail;go_roundw
     case rel=>exact⟨k+1,by omega,by go_num,by rw[a.out];go_num,B2⟩
     case measure=>simp[intOf];omega
    ·have q1:=int_ne q;rw[if_neg q] at a f;go_wp2_with fail;go_roundw
     case rel=>exact⟨k+1,by omega,by go_num,by rw[a.out];rfl,s⟩
     case measure=>simp[intOf];omega
  ·obtain rfl:k=n:=dA
   go_wp2_with fail;go_ret;exact⟨by rw[List.take_of_length_le (IA v.out)];rfl,i⟩
theorem Qh:∀t:WV,MS t.kids:=by
 intro t
 induction t using WV.ind with
 |h kind tag key txt sa attrs sk kids ih=>exact Y8 kids ih
theorem Ek(ts:List WV):MS ts:=Y8 ts (fun t _=>Qh t)
section
variable{w w1 w2:World}
end
section
variable{B g:Nat}{t:WV}{A:vA}{n c:Nat}{acc:List In}{w wz:World}
end
end P14
end Go.Proofs.YtimfajmknmlajaaGreatDoor
