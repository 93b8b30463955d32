/- A part of the proof. No condition. -/
import Derived.Test.YtimfajmknmlajaaGreatDoorM1
import Derived.Test.YtimfajmknmlajaaGreatDoorM3
import Derived.Test.YtimfajmknmlajaaGreatDoorM5
import Derived.Test.YtimfajmknmlajaaGreatDoorM9
import Derived.Test.YtimfajmknmlajaaGreatDoorM10
import Derived.Test.YtimfajmknmlajaaGreatDoorM11
import Derived.Test.YtimfajmknmlajaaGreatDoorM14
import Derived.Test.YtimfajmknmlajaaGreatDoorM16
import Derived.Test.YtimfajmknmlajaaGreatDoorM17
import Derived.Test.YtimfajmknmlajaaGreatDoorM18
set_option linter.unusedVariables false
set_option linter.unusedSimpArgs false
set_option maxRecDepth 100000
set_option maxHeartbeats 40000000
namespace Go.Proofs.YtimfajmknmlajaaGreatDoor
open Go.Proofs.Tryz
namespace P14
open Go.RowKit Kd P4 P5 P11 P12 P13
end P14
namespace P22
open Go.RowKit Kd P4 P5 P11 P12 P13 P14
theorem dx:Ox:=by
 intro l A n c w p q a b r v;have s:=Zh (Kt l A n c w p q a b r v);have N:=qF;have O:=AF;have E:Hid (Rs w w.heap.size A n c l):=Zh ⟨q,a,b,r,p⟩;by_cases d:WD l=0
 ·have u:=Zh d;have C:=Zh (GQ d);have F:Hid (∀g:World,fA w g->jA 200 #[.slice A n c] g (AW g w.heap.size (MB l) [])):=Zh (fun g d=>Rh (MB l) [] A n c w.heap.size g C.2 (fun x hx=>by cases hx) (by rw[C.out.1,List.append_nil];exact E.below d Zl) d.size);have e0:QA ((WD l:Nat):Int)= .nilIface:=(by rw[d];rfl);rw[e0] at s;clear p q a b r v d e0;go_enter func168,ntmps168;go_wp2_with fail;refine s.mono ?_;rintro e y ⟨rfl,i⟩;have f:=Zh i;clear i;go_wp2_with fail;refine(F y f).mono ?_;rintro e P ⟨G,H,I,J,Q,R,S,rfl,j,k,m,_,D⟩;have z:=Zh j;have K:=Zh (f.trans (D.mono f.size));have L:=Zh k;have M:=Zh m;have o:=f.size;clear j k m D;go_wp2_with fail;go_ret2;exact⟨G,H,I,J,by rw[u.out];rfl,by rw[z.out,if_pos u.out],L.dE o,fun t B=>(M t B).mono (fun _ _ h=>Nat.le_trans o h.1),K⟩
 ·have u:=Zh d;have e0:QA ((WD l:Nat):Int)= .iface 29 (aA ((WD l:Nat):Int)):=(by unfold QA;rw[if_neg dA]);have z:=Zh e0;rw[e0] at s;clear p q a b r v d e0;go_enter func168,ntmps168;go_wp2_with fail;refine s.mono ?_;rintro e y ⟨rfl,i⟩;have f:=Zh i;clear i;go_wp2_with fail;go_ret2;exact⟨none,0,0,[],by rw[z.out];rfl,by rw[if_neg u.out];rfl,Kind.Own.nil kW y _,(fun t B=>by cases B),f⟩
end P22
namespace P20
open Go.RowKit Kd P4 P5 P7 P11 P12 P14 P16 P19 P21
def tI(w:World)(B g p:Nat)(x:Dx)(vd:Value)(rs:List RR)(id:Int)(b:uA)(outer:Bool)(e:Ending)(w':World):Prop:=
 ∃(x':Dx) (vd':Value) (rs':List RR),e= .returned (QA ((pD (x.d,rs.map (·.r)) id b outer).1:Int))/\wB w B g p x vd x' vd' rs' w'/\(x'.d,rs'.map (·.r))=(pD (x.d,rs.map (·.r)) id b outer).2
structure fv:Prop where
 Ed:∀(p:Nat) (id:Int) (A:vA) (n c:Nat) (w:World),jA 48 #[.pointer none,lA p,aA id,.slice A n c] w fun e w'=>e= .returned (QA 1)/\fA w w'
 inner:∀(w:World) (B g p:Nat) (x:Dx) (vd:Value) (rs:List RR) (id:Int) (b:uA) (A:vA) (n c:Nat),Dc w B p x->SC x.d->x.n<=80000->Lg w B g p vd rs->rs.length<=100000->
  (∀w',iA (EF p x g vd) w w'->kB.AA w' w'.heap.size A b)->b.length=n->n<=c->c<=maxLen->(A=none->c=0)->n<=100000->
  jA 48 #[lA g,lA p,aA id,.slice A n c] w (tI w B g p x vd rs id b false)
 outer:∀(w:World) (B g p:Nat) (x:Dx) (vd:Value) (rs:List RR) (id:Int) (b:uA) (A:vA) (n c:Nat),Dc w B p x->SC x.d->x.n<=80000->Lg w B g p vd rs->rs.length<=100000->
  (∀w',iA (EF p x g vd) w w'->kB.AA w' w'.heap.size A b)->b.length=n->n<=c->c<=maxLen->(A=none->c=0)->n<=100000->
  jA 49 #[lA g,lA p,aA id,.slice A n c] w (tI w B g p x vd rs id b true)
end P20
namespace P10
open Go.RowKit Kd P4 P5 P8 P9
theorem Io:∀f,mW f:=by
 intro f
 induction f using Nat.strongRecOn with
 |ind f ih=>exact Ts f (fun a h=>Jw a (ih a h))
theorem I8:∀{l:List PT} {k:Nat} (h:k<l.length),TE (l.take (k+1))=max (TE (l.take k)) (if l[k].tag.toList.isEmpty then 0 else 1+mL l[k])
 |a:: l,0,h=>by simp[TE]
 |a:: l,k+1,h=>by
  have:=I8 (l:=l) (k:=k) (by simpa using h);simp only[List.take_succ_cons,TE,List.getElem_cons_succ,this];omega
def zS(ts:List TV):Prop:=∀(w:World) (A:vA) (n c:Nat),kT.AA w w.heap.size A ts->ts.length=n->(∀t∈ts,EC w w.heap.size t)->wL (yA ts)<=100000->
 jA 120 #[.slice A n c] w fun e w'=>e= .returned (aA (TE (yA ts):Nat))/\fA w w'
theorem sP(ts:List TV)(IH:∀t∈ts,zS t.kids):zS ts:=by
 intro w A n c I B r T;have U:=Zh I;have V:=Zh B;have W:=Zh r;have X:=Zh IH;have C:Hid ((yA ts).length=n):=Zh (by rw[nC];simpa using B);have Y:Hid (∀k (z:k<ts.length),wP (er ts[k])<=100000):=Zh (fun k z=>by
  have D:k<(yA ts).length:=(by rw[nC];simpa using z);have J:=pS (List.getElem_mem D);rw[LK z] at J;omega)
 have K:Hid (∀k,TE ((yA ts).take k)<=100000):=Zh (fun k=>by
  have h1:=lW ((yA ts).take k);have J:wL (yA ts)=wL ((yA ts).take k)+wL ((yA ts).drop k):=(by rw[<-zL,List.take_append_drop]);omega)
 have Z:n<=100000:=(by have:=YN (yA ts);have:=C.out;omega);clear I B r T IH;go_enter func120,ntmps120;go_wp2_with fail;go_loopw [3,8] (fun m s wr=>∃(k:Nat),k<=n/\s = aA k/\m = aA (TE ((yA ts).take k):Nat)/\Hid (fA w wr)) (fun _ s _=>n-(intOf s).toNat)
 case atStart=>exact⟨0,by omega,rfl,by simp[TE],Zh Ze⟩
 case round=>
  obtain⟨k,z,rfl,rfl,g⟩:=hrel;by_cases a5:k<n
  ·have a:k<ts.length:=(IA V.out);have u:k<(yA ts).length:=(IA C.out);have f:=Zh (I8 u);rw[LK a u] at f;have E:=K k;have i:=K (k+1);obtain⟨b,o,rfl,hb,L,M,N,O,P⟩:=qK (U.on g) a;have j:=Y k a;have F:Hid (∀l,fA wr l->jA 120 #[.slice ts[k].sk.A ts[k].sk.n ts[k].sk.c] l fun e w'=>e= .returned (aA (TE (yA ts[k].kids):Nat))/\fA l w'):=Zh (fun l h9=>by
    have G:=(W _ (List.getElem_mem a)).on (g.trans (h9.mono g.size));exact X _ (List.getElem_mem a) l _ _ _ G.kh G.kl G.ks (by rw[aF,wP] at j;omega))
   have v:=lW (yA ts[k].kids);have Q:Hid ((if(er ts[k]).tag.toList.isEmpty then 0 else 1+mL (er ts[k]))=if ts[k].tag.toList.isEmpty then 0 else 1+TE (yA ts[k].kids)):=Zh (by rw[aF,mL];rfl);have H:wL (yA ts[k].kids)<=100000:=(by rw[aF,wP] at j;omega);rw[Q.out] at f;clear j Q;generalize ts[k]=d at L M N O P F f v H;generalize TE (yA d.kids)=x at F f v;generalize TE ((yA ts).take k)=m at f E|-;rw[f.out] at i;go_upto_region 5 with fail;have p:=Zh (TB.new wr d);have y:Hid (fA wr (wr.alloc (.cells #[bA d.tag,bA d.txt,bA d.key,.slice d.sa.A d.sa.n d.sa.c,.slice d.sk.A d.sk.n d.sk.c] 81))):=Zh (Zb _ _);generalize wr.alloc (.cells #[bA d.tag,bA d.txt,bA d.key,.slice d.sa.A d.sa.n d.sa.c,.slice d.sk.A d.sk.n d.sk.c] 81)=wa at p y|-;clear L M N O P;have a0:=p.c0;have a1:=p.c1;have a2:=p.c2;have a3:=p.c3;have a4:=p.c4;cases tE:d.tag.toList.isEmpty with
   |true=>
    rw[tE,if_pos rfl] at f i;go_wp2_with fail;go_roundw
    case rel=>exact⟨k+1,by omega,by go_num,by rw[f.out];congr 2;omega,Zh (g.trans (y.mono g.size))⟩
    case measure=>simp[intOf];omega
   |false=>
    rw[tE,if_neg FA] at f i;go_wp2_with fail;refine(F wa y).mono ?_;rintro e w2 ⟨rfl,R⟩;have S:=Zh (g.trans ((y.trans (R.mono y.size)).mono g.size));clear R;by_cases hm:m<1+x
    ·have q:decide ((m:Int)<1+(x:Int))=true:=jB;go_wp2_with fail;go_roundw
     case rel=>exact⟨k+1,by omega,by go_num,by rw[f.out,show max m (1+x)=1+x by omega];go_num,S⟩
     case measure=>simp[intOf];omega
    ·have q:decide ((m:Int)<1+(x:Int))=false:=jB;go_wp2_with fail;go_roundw
     case rel=>exact⟨k+1,by omega,by go_num,by rw[f.out];congr 2;omega,S⟩
     case measure=>simp[intOf];omega
  ·obtain rfl:k=n:=dA
   go_wp2_with fail;go_ret;exact⟨by rw[List.take_of_length_le (IA C.out)];rfl,g⟩
theorem Jo:∀t:TV,zS t.kids:=by
 intro t
 induction t using TV.ind with
 |h tag txt key sa attrs sk kids ih=>exact sP kids ih
theorem Us(ts:List TV):zS ts:=sP ts (fun t _=>Jo t)
theorem Ko(ts:List TV)(w:World)(A:vA)(n c:Nat)(hh:kT.AA w w.heap.size A ts)(hn:ts.length=n)(hok:∀t∈ts,EC w w.heap.size t)(hf:jD (yA ts)=true)(hn1:n<=100000):
 jA 121 #[.slice A n c] w fun e w'=>e= .returned (.bool (gD (yA ts)))/\fA w w':=by
 have H:=Zh hh;have I:=Zh hn;have J:=Zh hok;have r:=Zh hf;have v:Hid ((yA ts).length=n):=Zh (by rw[nC];simpa using hn);clear hh hn hok hf;go_enter func121,ntmps121;go_wp2_with fail;go_loopw [7] (fun s wr=>∃(k:Nat),k<=n/\s = aA k/\Hid (gD ((yA ts).take k)=true)/\Hid (fA w wr)) (fun s _=>n-(intOf s).toNat)
 case atStart=>exact⟨0,by omega,rfl,Zh (by simp[gD]),Zh Ze⟩
 case round=>
  obtain⟨k,O,rfl,x,i⟩:=hrel;by_cases K:k<n
  ·have a:k<ts.length:=(IA I.out);have f:k<(yA ts).length:=(IA v.out);obtain⟨b,o,rfl,P,y,z,B,C,D⟩:=qK (H.on i) a;have u:Hid (∀j,fA wr j->jA 126 #[.agg #[bA ts[k].tag,bA ts[k].txt,bA ts[k].key,.slice ts[k].sa.A ts[k].sa.n ts[k].sa.c,.slice ts[k].sk.A ts[k].sk.n ts[k].sk.c]] j fun e w'=>e= .returned (.bool (iC (yA ts)[k]))/\fA j w'):=Zh (fun j L=>by
    rw[LK a f];exact Jc ts[k] j ((J _ (List.getElem_mem a)).on (i.trans (L.mono i.size))) (by have:=BV f r;rwa[LK a f] at this))
   generalize ts[k]=d at y z B C D u;obtain⟨M,g⟩:=DA (iC (yA ts)[k]);rw[g] at u;have m:=Zh g;have p:=Zh f;clear g;go_upto_region 4 with fail;have l:=Zh (TB.new wr d);have q:Hid (fA wr (wr.alloc (.cells #[bA d.tag,bA d.txt,bA d.key,.slice d.sa.A d.sa.n d.sa.c,.slice d.sk.A d.sk.n d.sk.c] 81))):=Zh (Zb _ _);generalize wr.alloc (.cells #[bA d.tag,bA d.txt,bA d.key,.slice d.sa.A d.sa.n d.sa.c,.slice d.sk.A d.sk.n d.sk.c] 81)=N at l q|-;clear y z B C D;have Q:=l.c0;have R:=l.c1;have S:=l.c2;have T:=l.c3;have U:=l.c4;go_wp2_with fail;refine(u N q).mono ?_;rintro e V ⟨rfl,E⟩;have F:=Zh (i.trans ((q.trans (E.mono q.size)).mono i.size));clear E;cases M with
   |false=>
    go_wp2_with fail;go_ret;exact⟨by rw[U4 p.out m.out];rfl,F⟩
   |true=>
    go_wp2_with fail;go_roundw
    case rel=>exact⟨k+1,by omega,by go_num,Zh (iZ p x m),F⟩
    case measure=>simp[intOf];omega
  ·obtain rfl:k=n:=dA
   go_wp2_with fail;go_ret;refine⟨?_,i⟩;have G:=x.out;rw[List.take_of_length_le (IA v.out)] at G;rw[G];rfl
theorem Kw:QA ((7:Nat):Int)= .iface 29 (aA 7):=rfl
theorem Wu:QA ((13:Nat):Int)= .iface 29 (aA 13):=rfl
theorem Lw:QA ((0:Nat):Int)= .nilIface:=rfl
def QR(w:World)(p:List PT×Nat)(e:Ending)(w':World):Prop:=∃(A:vA) (n c:Nat) (ts:List TV),e= .returned (.tuple #[.slice A n c,QA (p.2:Nat)])/\yA ts=p.1/\kT.Own w' w.heap.size (.slice A n c) ts/\(∀t∈ts,AB w' (fun b=>w.heap.size<=b) t)/\fA w w'
theorem mX{w w':World}{p:List PT×Nat}{k:Nat}(h:p=([],k))(hb:fA w w'):QR w p (.returned (.tuple #[tA,QA (k:Nat)])) w':=by
 subst h;exact⟨none,0,0,[],rfl,by simp[yA],Kind.Own.nil _ _ _,(by intro t a;cases a),hb⟩
theorem Vs(s:qA)(w:World)(hm:s.size<=100000000)(hML:Bd.ML w):jA 79 #[bA s] w (QR w (JD s.data.toList)):=by
 by_cases Y:6000<s.size
 ·have g:Hid (JD s.data.toList=([],13)):=Zh (Bj (by rw[EG];exact Y));go_enter func79,ntmps79;go_wp2_with fail;go_ret2;exact Wu▸mX g Ze
 ·have Q:Hid (jA 119 #[bA s] w (Gv w (ZG s.data.toList))):=Zh (by
   have:=Io (s.size+1) s w dA dA hML;unfold ZG;rw[EG];exact this)
  have k:Hid (wL (ZG s.data.toList).1<=12000):=Zh (by have:=Pu s.data.toList;rw[EG] at this;omega);have g:Hid (JD s.data.toList=if decide (TE (ZG s.data.toList).1<=200)&&gD (ZG s.data.toList).1&&decide (dB (ZG s.data.toList).1=s.data.toList) then((ZG s.data.toList).1,0) else([],7)):=Zh (Ks _ (by rw[EG];omega));go_enter func79,ntmps79;go_wp2_with fail;refine Q.mono ?_;rintro e d ⟨A,n,c,a,rfl,v,l,m,R⟩;rw[<-v] at k g;have x:=Nu l;have Z:=Zh l;have NW:Hid (∀t∈a,AB d (fun b=>w.heap.size<=b) t):=Zh (fun t j=>(m t j).mono (fun b _ h=>h.1));have a0:=Zh x;have D:=Zh R;have E:=Zh x.1;have H:=Zh x.2.2.2.2;have I:Hid (∀t∈a,EC d d.heap.size t):=Zh (fun t j=>(m t j).ok);have EL:Hid ((yA a).length=n):=Zh (by rw[nC,List.length_map];exact x.1);have a1:n<=12000:=(by have:=YN (yA a);have:=EL.out;have:=k.out;omega);have y:Hid (jD (yA a)=true):=Zh (fw (IA k.out));have J:Hid (jA 120 #[.slice A n c] d fun e w'=>e= .returned (aA (TE (yA a):Nat))/\fA d w'):=Zh (Us a d A n c H E I (IA k.out));have K:Hid (∀f,fA d f->jA 121 #[.slice A n c] f fun e w'=>e= .returned (.bool (gD (yA a)))/\fA f w'):=Zh (fun f h=>Ko a f A n c (H.on h) E (fun t j=>(I t j).on h) y dA);have L:Hid (∀f,fA d f->jA 122 #[.slice A n c] f fun e w'=>e= .returned (bA (bs (dB (yA a))))/\fA f w'):=Zh (fun f h=>Sr a A n c f (H.on h) E (fun t j=>(I t j).on h) y (IA E.out) (by have:=Gc (yA a);have:=k.out;omega));have M:TE (yA a)<=12000:=(by have:=lW (yA a);have:=k.out;omega);have o:(bs (dB (yA a))).data.toList=dB (yA a):=sH _;have N:Hid (∀f,fA d f->JD s.data.toList=(yA a,0)->QR w (JD s.data.toList) (.returned (.tuple #[.slice A n c,.nilIface])) f):=Zh (fun f h e=>by
   rw[e];exact⟨A,n,c,a,by rw[Lw],rfl,Z.below h Zl,fun t j=>(NW t j).later h,D.trans (h.mono D.size)⟩)
  have p:Hid (∀f,fA d f->JD s.data.toList=([],7)->QR w (JD s.data.toList) (.returned (.tuple #[tA,.iface 29 (aA 7)])) f):=Zh (fun f h e=>Kw▸mX e (D.trans (h.mono D.size)));rw[<-o] at g;generalize bs (dB (yA a))=S at L g o;generalize gD (yA a)=T at K g;generalize TE (yA a)=O at J g M;clear v l m R x o Q k;simp only;go_wp2_with fail;refine J.mono ?_;rintro e U ⟨rfl,V⟩;have F:=Zh V;clear V J;by_cases W:O<=200
  ·have q2:decide ((200:Int)<(O:Int))=false:=jB;have i:Hid (JD s.data.toList=if T&&decide (S.data.toList=s.data.toList) then(yA a,0) else([],7)):=Zh (by rw[g.out];simp[W]);go_wp2_with fail;refine(K U F).mono ?_;rintro e G ⟨rfl,X⟩;have r:=Zh (F.trans (X.mono F.size));clear X K;cases T with
   |false=>
    go_wp2_with fail;go_ret2;exact p G r (by rw[i.out];rfl)
   |true=>
    by_cases u:S.data.toList=s.data.toList
    ·have q:=uo u;have z:Hid (JD s.data.toList=(yA a,0)):=Zh (by rw[i.out];simp[u]);clear u i g;go_wp2_with fail;refine(L G r).mono ?_;rintro e B ⟨rfl,C⟩;have P:=Zh (r.trans (C.mono r.size));clear C;go_wp2_with fail;go_ret2;exact N B P z
    ·have q:=so u;have z:Hid (JD s.data.toList=([],7)):=Zh (by rw[i.out];simp[u]);clear u i g;go_wp2_with fail;refine(L G r).mono ?_;rintro e B ⟨rfl,C⟩;have P:=Zh (r.trans (C.mono r.size));clear C;go_wp2_with fail;go_ret2;exact p B P z
  ·have q2:decide ((200:Int)<(O:Int))=true:=jB;have z:Hid (JD s.data.toList=([],7)):=Zh (by rw[g.out];simp[W]);go_wp2_with fail;go_ret2;exact p U F z
end P10
namespace P21
open P5 P6 P8 P10 P11 P12 P13 P14 P16 P19 P20
theorem Lo{T:D->Prop}(c:Cl T)(t:PT):∀(d:D) (p b:Int),T d->T (qB d p b t).d:=by
 have i:∀(L:List Rc) {d:D},T d->T (yB d L).d:=by
  intro L
  induction L with
  |nil=>exact fun h=>h
  |cons r L ih=>
   intro d h;rw[yB];split
   ·exact ih (c d r h)
   ·exact c d r h
 induction t using PT.ind with
 |h tag txt key attrs kids ih=>
  intro d p b h;rw[JQ];have e:=i (ID (d.n+1) p b (.mk tag txt key attrs kids)) h;split
  ·show T (jC _ (d.n+1) kids).d;have:∀(l:List PT),(∀k∈l,∀(d:D) (p b:Int),T d->T (qB d p b k).d)->∀(d:D) (p:Int),T d->T (jC d p l).d:=by
    intro l
    induction l with
    |nil=>intro _ d p h;exact h
    |cons a l ihl=>
     intro f d p h;rw[jC];have g:=f a FA d p 0 h;split
     ·exact ihl (fun k j=>f k (by simp[j])) _ p g
     ·exact g
   exact this kids ih _ _ e
  ·exact e
theorem Ws{T:D->Prop}(c:Cl T)(f:Nat){s:Sg}(h:T s.1)(par:Int)(ids:List Int)(b:Int)(want:List PW):T (uB f s par ids b want).1:=by
 cases f with
 |zero=>exact h
 |succ f=>
  rw[KJ];exact yK c _ (bO c (tP c f) h _ Zl)
structure Xu(d:D):Prop where
 iK:SC d
 whole:Whole d
 root:qC (RA d.l 1)=false
theorem Mo{R:Nat}(h1:1<=R)(h2:R<=200):Xu (ZE R):=⟨DU h1 h2,Sj,by
 show qC ⟨#[114,111,111,116]⟩=false;unfold qC;rw[ByteArray.toList_eq]
 decide⟩
theorem Yu{d:D}(hw:WF d)(x:wI):Tg d (NC d x).s.1:=by
 have a:=vP d;have c:∀(m:List PT) {s:Sg},WF s.1/\Tg d s.1->WF (YE m s).1/\Tg d (YE m s).1:=by
  intro m
  induction m with
  |nil=>exact fun h=>h
  |cons t m ih=>exact fun {s} h=>ih (s:=((qB s.1 1 0 t).d,s.2++(qB s.1 1 0 t).done)) (Lo a t s.1 1 0 h)
 unfold NC;split
 ·show Tg d (fF (d,[]) _).2.1;unfold fF;split
  ·exact Tg.refl d
  split
  ·exact Tg.refl d
  ·exact(c _ (yK a _ (s:=(d,[])) ⟨hw,Tg.refl _⟩)).2
 split
 ·show Tg d (pD (d,[]) _ _ _).2.1;unfold pD
  repeat' split
  all_goals first
   |exact Tg.refl d
   |exact(Ws a _ (s:=(d,[])) ⟨hw,Tg.refl _⟩ _ _ _ _).2
 split
 ·show Tg d (gE d x.id).2;unfold gE;split<;>exact⟨Int.le_refl _,rfl,fun y _ h=>⟨h,rfl,rfl⟩⟩
 split
 ·show Tg d (JE d x.id x.n).2;unfold JE;split
  ·exact Tg.refl d
  ·refine⟨Int.le_refl _,rfl,fun y _ b=>?_⟩;have b:nA (mB d.l x.id (JL x.n)) y=true:=b;rw[xN d.l x.id (JL x.n) (fun _=>rfl) y] at b;exact⟨b,BN (l:=d.l) (i:=x.id) (f:=JL x.n) (fun _=>rfl) (fun _=>rfl) (fun _=>rfl) y⟩
 split
 ·split<;>exact Tg.refl d
 split
 ·split<;>exact Tg.refl d
 ·exact Tg.refl d
end P21
namespace P8
open Go.RowKit Kd P4 P5
variable{B p:Nat}{x:Dx}
theorem Fp(hwf:WF x.d){w:World}(h:Dc w B p x){k:Nat}(hk:k<x.rs.length){i:Int}(hy:x.rs[k].nd.id=i):x.rs[k].nd.id=i/\x.rs[k].nd.par=EA x.l i/\x.rs[k].nd.kids=xA x.l i/\x.rs[k].nd.attrs.length<=1000/\x.rs[k].nd.kids.length<=1000:=by
 have a:=sF h hk hy;have b:=mP h hwf hk;exact⟨hy,a.2.1.symm,a.2.2.symm,b.1,b.2.1⟩
def Gp(w:World)(r:PT)(e:Ending)(w':World):Prop:=∃tv:TV,e= .returned (.tuple #[.agg #[bA tv.tag,bA tv.txt,bA tv.key,.slice tv.sa.A tv.sa.n tv.sa.c,.slice tv.sk.A tv.sk.n tv.sk.c],.bool true])/\er tv=r/\AB w' (fun b=>w.heap.size<=b) tv/\fA w w'
def gO(w:World)(g8 f nk:Nat)(tag txt key:qA)(sa:Sv)(attrs:List P3.At)(kids:List Int)(vk:Value)(tr:Int->PT)(s37:Value)(wr:World):Prop:=
 ∃(j:Nat) (A:vA) (n c:Nat) (l:List TV),s37 = aA j/\j<=nk/\l.length=j/\Hid (bQ w wr g8 (g8+1) tag txt key sa attrs A n c l (fun b=>g8<b))/\Hid (TB wr w.heap.size tG)/\Hid (er (.mk tag txt key sa attrs ⟨A,n,c⟩ l)= .mk tag txt key attrs ((kids.take j).map tr))/\Hid (ZB wr sa attrs)/\Hid (kI.Own wr w.heap.size vk kids)/\Hid (fA w wr)
theorem Fv(hwf:WF x.d):∀(f:Nat) (i:Int) (w:World),Hb (xA x.l) f i->nA x.l i=true->Dc w B p x->jA 88 #[lA p,aA i] w (Gp w (mD x.l f i)):=by
 intro f
 induction f with
 |zero=>intro i w g;exact g.elim
 |succ f ih=>
  intro i w g hi h;have IH:=Zh ih;have ab:=Zh g;have H:=Zh h;have ac:=Zh hwf;obtain⟨k,P,hy,W⟩:=h.place hi;obtain⟨q1,q2,q3,q4,q5⟩:=Fp hwf h P hy;obtain⟨nd,X⟩:=DA (x.rs[k].nd);rw[X] at q1 q3 q4 q5 W;have ad:=Zh X;have HY:=Zh hy;have ae:=Zh q3;have af:Hid (mD x.l (f+1) i= .mk nd.tag nd.txt nd.key nd.attrs (nd.kids.map (mD x.l f))):=Zh (zh W f);have R:Hid (fA w (w.alloc (.cells #[oA,oA,oA,tA,tA] 81))):=Zh (Zb _ _);have Z0:Hid (TB (w.alloc (.cells #[oA,oA,oA,tA,tA] 81)) w.heap.size tG):=Zh (TB.new w tG);clear ih g h hwf hy hi X q1 q2 q3 W;go_enter func88,ntmps88;go_upto_region 1 with fail;generalize w.alloc (.cells #[oA,oA,oA,tA,tA] 81)=w0 at R Z0|-;go_wp2_with fail;refine(VL i w0 P HY ad q4 q5 (H.below R)).mono ?_;rintro e G ⟨q,r,s,I,nk,D,rfl,a1,o1,b1⟩;have B2:Hid (fA w (G.alloc (.cells #[aA nd.id,aA nd.par,bA nd.tag,bA nd.txt,bA nd.key,.slice q r s,.slice I nk D,aA nd.note] 53))):=Zh ((R.trans (b1.mono R.size)).alloc (R.trans (b1.mono R.size)).size _);have z:fA G (G.alloc (.cells #[aA nd.id,aA nd.par,bA nd.tag,bA nd.txt,bA nd.key,.slice q r s,.slice I nk D,aA nd.note] 53)):=Zb _ _;have K:Hid (lB (G.alloc (.cells #[aA nd.id,aA nd.par,bA nd.tag,bA nd.txt,bA nd.key,.slice q r s,.slice I nk D,aA nd.note] 53)) G.heap.size nd q r s I nk D):=Zh (lB.new _ _ _ _ _ _ _ _);have A2:=Zh (a1.below z);have Z2:Hid (TB (G.alloc (.cells #[aA nd.id,aA nd.par,bA nd.tag,bA nd.txt,bA nd.key,.slice q r s,.slice I nk D,aA nd.note] 53)) w.heap.size tG):=Zh ((Z0.below b1 Z0.lt).below z (by have:=Z0.lt;have:=b1.size;omega));have O2:Hid (kI.Own (G.alloc (.cells #[aA nd.id,aA nd.par,bA nd.tag,bA nd.txt,bA nd.key,.slice q r s,.slice I nk D,aA nd.note] 53)) w.heap.size (.slice I nk D) nd.kids):=Zh ((o1.below z Zl).dE R.size);clear a1 o1 b1 z;go_upto_region 4 with fail;generalize G.alloc (.cells #[aA nd.id,aA nd.par,bA nd.tag,bA nd.txt,bA nd.key,.slice q r s,.slice I nk D,aA nd.note] 53)=C at K B2 A2 Z2 O2|-;generalize G.heap.size=g6 at K|-;have r2:=K.c2;have r3:=K.c3;have r4:=K.c4;have r5:=K.c5;go_upto_region 7 with fail;have z:fA C (C.alloc (.cells #[bA nd.tag,bA nd.txt,bA nd.key,.slice q r s,tA] 81)):=Zb _ _;have B3:Hid (fA w (C.alloc (.cells #[bA nd.tag,bA nd.txt,bA nd.key,.slice q r s,tA] 81))):=Zh (B2.alloc B2.size _);have N3:=Zh (K.below z K.lt);have A3:=Zh (A2.below z);have Z3:=Zh (Z2.below z Z2.lt);have O3:Hid (kI.Own (C.alloc (.cells #[bA nd.tag,bA nd.txt,bA nd.key,.slice q r s,tA] 81)) w.heap.size (.slice I nk D) nd.kids):=Zh (O2.below z Zl);have G3:Hid (bQ w (C.alloc (.cells #[bA nd.tag,bA nd.txt,bA nd.key,.slice q r s,tA] 81)) C.heap.size (C.heap.size+1) nd.tag nd.txt nd.key ⟨q,r,s⟩ nd.attrs none 0 0 [] (fun b=>C.heap.size<b)):=Zh ⟨TB.new C (.mk nd.tag nd.txt nd.key ⟨q,r,s⟩ nd.attrs ⟨none,0,0⟩ []),Kind.Own.nil _ _ _,fun k P=>by cases P⟩;have ag:w.heap.size<C.heap.size:=Z2.lt;generalize C.alloc (.cells #[bA nd.tag,bA nd.txt,bA nd.key,.slice q r s,tA] 81)=w3 at B3 N3 A3 Z3 O3 G3|-;generalize C.heap.size=d at G3 ag|-;clear z B2 K A2 Z2 O2 r2 r3 r4 r5 R Z0;obtain⟨g1,_,_,_,_⟩:=UE O3 rfl;have a5:Hid (nd.kids.length=nk):=Zh g1;have an:nk<=1000:=dA;clear g1;have r6:=N3.c6;go_wp2_with fail;go_loopw [37] (fun Y wr=>gO w d f nk nd.tag nd.txt nd.key ⟨q,r,s⟩ nd.attrs nd.kids (.slice I nk D) (mD x.l f) Y wr) (fun Y _=>nk-(intOf Y).toNat)
  case atStart=>exact⟨0,none,0,0,[],rfl,by omega,rfl,G3,Z3,Zh (by rw[er,yA];simp),A3,O3,B3⟩
  case round=>
   obtain⟨j,A,n,c,l,rfl,hj,ao,y,J,HE,HA,HO,HB⟩:=hrel;by_cases ap:j<nk
   ·have Z:j<nd.kids.length:=(IA a5.out);obtain⟨_,_,_,_,a6⟩:=UE HO rfl;obtain⟨gb,go,rfl,ah,hc⟩:=yE a6 Z;have F:nd.kids[j]∈xA x.l i:=(by rw[<-ae.out];exact List.getElem_mem Z);have CK:=Zh (IH nd.kids[j] wr (ab _ F) (ac.tr.aB i _ F).2.1 (H.below HB));have a7:Hid ((nd.kids.take (j+1)).map (mD x.l f)=(nd.kids.take j).map (mD x.l f)++[mD x.l f nd.kids[j]]):=Zh (by rw[List.take_add_one,List.getElem?_eq_getElem Z,List.map_append];rfl);generalize nd.kids[j]=kd at hc CK a7;clear F a6 ah;go_wp2_with fail;refine CK.mono ?_;rintro e E ⟨a,rfl,a8,a9,b5⟩;have T:fA wr (E.alloc (.cells #[bA a.tag,bA a.txt,bA a.key,.slice a.sa.A a.sa.n a.sa.c,.slice a.sk.A a.sk.n a.sk.c] 81)):=b5.alloc b5.size _;have z:fA E (E.alloc (.cells #[bA a.tag,bA a.txt,bA a.key,.slice a.sa.A a.sa.n a.sa.c,.slice a.sk.A a.sk.n a.sk.c] 81)):=Zb _ _;have U:Hid (TB (E.alloc (.cells #[bA a.tag,bA a.txt,bA a.key,.slice a.sa.A a.sa.n a.sa.c,.slice a.sk.A a.sk.n a.sk.c] 81)) E.heap.size a):=Zh (TB.new E a);have T6:Hid (AB (E.alloc (.cells #[bA a.tag,bA a.txt,bA a.key,.slice a.sa.A a.sa.n a.sa.c,.slice a.sk.A a.sk.n a.sk.c] 81)) (fun b=>d<b/\(Value.slice A n c).ownBlock≠some b) a):=Zh ((a9.later z).mono fun b _ g=>⟨by have:=y.tb.lt;omega,fun e=>by have:=(y.own.lt e).2;omega⟩);have ai:=Zh a8;have B6:=Zh (HB.trans (T.mono HB.size));have t:Hid (bQ w (E.alloc (.cells #[bA a.tag,bA a.txt,bA a.key,.slice a.sa.A a.sa.n a.sa.c,.slice a.sk.A a.sk.n a.sk.c] 81)) d (d+1) nd.tag nd.txt nd.key ⟨q,r,s⟩ nd.attrs A n c l (fun b=>d<b)):=Zh ⟨y.tb.below T y.tb.lt,y.own.below T Zl,fun k P=>(y.ks k P).later T⟩;have Z6:=Zh (J.below T J.lt);have A6:=Zh (HA.below T);have O6:Hid (kI.Own (E.alloc (.cells #[bA a.tag,bA a.txt,bA a.key,.slice a.sa.A a.sa.n a.sa.c,.slice a.sk.A a.sk.n a.sk.c] 81)) w.heap.size (.slice (some (cA gb go)) nk D) nd.kids):=Zh (HO.below T Zl);clear a8 a9 b5 T z hc;go_upto_region 11 with fail;generalize E.alloc (.cells #[bA a.tag,bA a.txt,bA a.key,.slice a.sa.A a.sa.n a.sa.c,.slice a.sk.A a.sk.n a.sk.c] 81)=w6 at U T6 B6 t Z6 A6 O6|-;generalize E.heap.size=aq at U|-;have a0:=U.c0;have a1:=U.c1;have a2:=U.c2;have a3:=U.c3;have a4:=U.c4;have d4:w6.cell? (cA d 4)=some (.slice A n c):=t.tb.c4;have ar:l.length<=1000:=dA;go_wp2_with (at_builtin;refine kT.QF rfl _ _ rfl (v:=.slice A n c) (l:=l) (m:=[a]) (B:=d+1) (A:=some ⟨w6.heap.size,0,none⟩) (n:=1) (c:=1) rfl (t.own.alloc _) rfl rfl KF (Kind.AA.lit (heap_alloc_new _ _) rfl) jB (by have:=t.tb.lt;simp;omega) ?_;intro v7 L u o V;obtain⟨M,N,O,rfl,_,_,_,_,_⟩:=u.slice;have e7:L.cell? (cA d 4)=some (.slice A n c):=(cell_of_row L d 4 _ _ (0,0) ((o.block d (by have:=t.tb.lt;simp;omega) (fun e=>by have:=(t.own.lt e.symm).1;omega)).trans (JB t.tb))).trans rfl;have f7:L.frozen? (cA d 4)=false:=(by have g:=(o.block d (by have:=t.tb.lt;simp;omega) (fun e=>by have:=(t.own.lt e.symm).1;omega)).trans (JB t.tb);simp[World.frozen?,g]);have GB:=Kj (Q:=fun b=>d<b) (k:=a) (fun b g e=>by omega) (Nat.lt_succ_self d) t.tb t.own t.ks T6 o u V;clear u o V a0 a1 a2 a3 a4 d4);obtain⟨g9,b9⟩:=GB;have hS:∀b,(b=d\/(Value.slice A n c).ownBlock=some b)->∃aa,w6.heap[b]? = some (.cells aa 81 (0,0)):=by
     rintro b (rfl|e)
     ·exact⟨_,t.tb⟩
     ·exact t.own.ty e
    have G9:Hid (bQ w (L.setCell (cA d 4) (.slice M N O)) d (d+1) nd.tag nd.txt nd.key ⟨q,r,s⟩ nd.attrs M N O (l++[a]) (fun b=>d<b)):=Zh ⟨g9.tb,g9.own,g9.ks⟩;have B9:Hid (fA w (L.setCell (cA d 4) (.slice M N O))):=Zh (B6.trans (b9.eD (fun b _ g=>by
     rcases g with rfl|e
     ·omega
     ·have:=(t.own.lt e).1;omega) B6.size))
    have Z9:Hid (TB (L.setCell (cA d 4) (.slice M N O)) w.heap.size tG):=Zh ((b9.block _ Z6.lt (fun g=>by
     rcases g with e|e
     ·omega
     ·have:=(t.own.lt e).1;omega)).trans Z6)
    have A9:Hid (ZB (L.setCell (cA d 4) (.slice M N O)) ⟨q,r,s⟩ nd.attrs):=Zh (A6.but b9 (uN hS));have O9:Hid (kI.Own (L.setCell (cA d 4) (.slice M N O)) w.heap.size (.slice (some (cA gb go)) nk D) nd.kids):=Zh (O6.but b9 (fun b g hs=>by
     obtain⟨d1,aj⟩:=O6.ty g;obtain⟨d2,ak⟩:=hS b hs;exact WA aj ak pA rfl))
    have E9:Hid (er (.mk nd.tag nd.txt nd.key ⟨q,r,s⟩ nd.attrs ⟨M,N,O⟩ (l++[a]))= .mk nd.tag nd.txt nd.key nd.attrs ((nd.kids.take (j+1)).map (mD x.l f))):=Zh (by
     have h1:=HE.out;rw[er,nC] at h1|-;injection h1 with _ _ _ _ h1;rw[a7.out,List.map_append,h1,<-ai.out];rfl)
    generalize L.setCell (cA d 4) (.slice M N O)=w9 at G9 B9 Z9 A9 O9|-;clear g9 b9 hS e7 f7 U T6 B6 t Z6 A6 O6;go_wp2_with fail;go_roundw
    case rel=>exact⟨j+1,M,N,O,l++[a],by go_num,by omega,by simp;omega,G9,Z9,E9,A9,O9,B9⟩
    case measure=>simp[intOf];omega
   ·obtain rfl:j=nk:=dA
    have d0:=y.tb.c0;have d1:=y.tb.c1;have d2:=y.tb.c2;have d3:=y.tb.c3;have d4:=y.tb.c4;have z0:=J.c0;have z1:=J.c1;have z2:=J.c2;have z3:=J.c3;have z4:=J.c4;simp only[TV.tag,TV.txt,TV.key,TV.sa,TV.sk,tG] at d0 d1 d2 d3 d4 z0 z1 z2 z3 z4;have zf:∀i,wr.frozen? ⟨w.heap.size,i,none⟩=false:=fun i=>by have g:=J.out;simp[World.frozen?,(show wr.heap[w.heap.size]? = _ from g)]
    have al:w.heap.size<wr.heap.size:=J.lt;have am:Hid (er (.mk nd.tag nd.txt nd.key ⟨q,r,s⟩ nd.attrs ⟨A,n,c⟩ l)=mD x.l (f+1) i):=Zh (by rw[af.out,HE.out,List.take_of_length_le (IA a5.out)]);go_wp2_with fail;refine bodyPost_ret (v:=.tuple #[.agg #[bA nd.tag,bA nd.txt,bA nd.key,.slice q r s,.slice A n c],.bool true]) (by simp[results,results88,go_sem,z0,z1,z2,z3,z4,al]) rfl ⟨.mk nd.tag nd.txt nd.key ⟨q,r,s⟩ nd.attrs ⟨A,n,c⟩ l,rfl,am,?_,?_⟩
    ·refine AB.but (S:=fun b=>b=w.heap.size) (w:=wr) (AB.mono (Q:=fun b=>d<b) ⟨HA,y.own.dE (Nat.zero_le _),fun b g=>by have:=(y.own.lt g).1;omega,fun k P=>(y.ks k P).mono fun b _ g=>g.1⟩ (fun b _ g=>(show w.heap.size<b by omega))) ?_ (fun b g e=>by omega) (fun b aa fr e hc=>by
      subst e;exact WA hc J pA rfl) |>.mono fun b _ g=>Nat.le_of_lt g
     exact mA (mA (mA (mA (mA (iA.refl _ _)))))
    ·exact rF HB (mA (mA (mA (mA (mA (iA.refl _ _))))))
theorem Tx:Yx:=by
 intro w B p x i b C h;cases hi:nA x.l i with
 |true=>
  have g:Hb (xA x.l) (x.l.length+1) i:=by
   have j:Hb (xA x.l) ((MA x.l).length+1) i:=b.tr.JK (L:=MA x.l) (fun y D=>zE.1 D) (y:=i) hi;simpa[MA] using j
  refine(Fv b (x.l.length+1) i w g hi h).mono ?_;rintro e w' ⟨E,rfl,j,F,G⟩;exact .inl ⟨rfl,E,rfl,j,F.ok,G⟩
 |false=>
  have o:=Zh hi;have H:=Zh h;clear hi h b;have c:Hid (fA w (w.alloc (.cells #[oA,oA,oA,tA,tA] 81))):=Zh (Zb _ _);have d:Hid (TB (w.alloc (.cells #[oA,oA,oA,tA,tA] 81)) w.heap.size tG):=Zh (TB.new w tG);go_enter func88,ntmps88;go_upto_region 1 with fail;generalize w.alloc (.cells #[oA,oA,oA,tA,tA] 81)=I at c d|-;go_wp2_with fail;refine(eV i I o (H.below c)).mono ?_;rintro e f ⟨rfl,k⟩;have q:=Zh (c.trans (k.mono c.size));have r:=Zh (d.below k d.lt);have l:fA f (f.alloc (.cells #[aA 0,aA 0,oA,oA,oA,tA,tA,aA 0] 53)):=Zb _ _;have s:=Zh (q.trans (l.mono q.size));have a:=Zh (r.below l r.lt);clear k l c d;go_upto_region 4 with fail;generalize f.alloc (.cells #[aA 0,aA 0,oA,oA,oA,tA,tA,aA 0] 53)=m at s a|-;have z0:=a.c0;have t:=a.c1;have u:=a.c2;have z:=a.c3;have A:=a.c4;simp only[TV.tag,TV.txt,TV.key,TV.sa,TV.sk,tG] at z0 t u z A;have J:∀i,m.frozen? ⟨w.heap.size,i,none⟩=false:=fun i=>by have g:=a.out;simp[World.frozen?,(show m.heap[w.heap.size]? = _ from g)]
  have n:w.heap.size<m.heap.size:=a.lt;go_wp2_with fail;refine bodyPost_ret (v:=.tuple #[.agg #[oA,oA,oA,tA,tA],.bool false]) (by simp[results,results88,go_sem,z0,t,u,z,A,n]) rfl (.inr ⟨by first|trivial|exact o,rfl,?_⟩);exact rF s (mA (mA (mA (mA (mA (iA.refl _ _))))))
end P8
namespace P21
open Go.RowKit Kd P4 P5 P7 P16 P19 P20 P22
theorem Un{d:D}(x:wI)(h:(NC d x).code≠0\/6<=x.kind):(NC d x).s=(d,[]):=by
 by_cases a:(NC d x).code≠0
 ·exact(IV x a).1
 have b:6<=x.kind:=h.resolve_left a;unfold NC;rw[if_neg dA,if_neg dA,if_neg dA,if_neg dA];split
 ·split<;>rfl
 split
 ·split<;>rfl
 ·rfl
variable{Wo:World->Prop}{Se:World->Nat->(Nat->Prop)->D->List Rc->Prop}
def tw(Se:World->Nat->(Nat->Prop)->D->List Rc->Prop)(w:World)(s m:Nat)(si:Value)(wr:World):Prop:=∃(k:Nat) (d:D) (rs:List Rc),k<=m/\si = aA k/\d.n<=1+400*(k:Int)/\Hid (Sn Se wr w.heap.size s d rs)/\Hid (SC d)/\Hid (fA w wr)
theorem Sx.YI(K:oI Wo Se){w w':World}{B B' s p:Nat}{d:D}{l:List Rc}{x x':Dx}(h:Sx Se w B (fC p x) s d l)(hd:Dc w B' p x)(b:aC w B' p x x' w'):Sx Se w' B (fC p x') s d l:=by
 obtain⟨F,f,c⟩:=h;exact⟨F,K.VB f b.but (fun k a g=>(c k a).2 g) hd.QE,fun k a=>⟨(c k a).1,fun e=>by
  rcases b.ft k e with e|e
  ·exact(c k a).2 e
  ·have:=K.lt f a;omega⟩⟩
theorem NQ{w w':World}{g:Nat}{nd:Nd}{A A2:vA}{n c n2 k2:Nat}(h:lB w g nd A n c A2 n2 k2)(b:fA w w'):lB w' g nd A n c A2 n2 k2:=(b.block g (JA h)).trans h
theorem py(K:oI Wo Se)(room:Int)(l:List SV)(A:vA)(m c:Nat)(w:World)(hwo:Wo w)(hm:l.length=m)(hmc:m<=c)(UC:c<=maxLen)(hok:∀a∈l,pK w a)(H:kS.AA w w.heap.size A l):
 jA 4 #[aA room,.slice A m c] w fun e w'=>e= .returned (.bool true)/\fA w w':=by
 have HH:=Zh H;have HM:=Zh hm;have HF:=Zh hok;have cz:m<=maxLen:=(by omega);have X:=Zh K;have WO:=Zh hwo;clear H hm hok K hwo;have q1:=vX;have q2:=Na;have q3:=qF;have q4:=wX;have q5:=AF;go_enter func4,ntmps4;go_wp2_with fail;refine(Rn X.out _ WO.out).mono ?_;rintro e w1 ⟨rfl,b1⟩;have B1:=Zh b1;clear b1;by_cases hr:room<1\/200<room
 ·go_wp2_with fail;refine(X.out.WN room _ hr).mono ?_;rintro e w2 ⟨rfl,b2⟩;rw[show QA 1= .iface 29 (aA 1) from rfl];go_wp2_with fail;go_ret;exact⟨by first|rfl|simp,B1.out.trans (b2.mono B1.out.size)⟩
 obtain⟨R,rfl⟩:=Int.eq_ofNat_of_zero_le (show 0<=room by omega);have ck:1<=R:=(by omega);have cl:R<=200:=(by omega);clear hr;go_wp2_with fail;refine(X.out.gV R _ ck cl).mono ?_;rintro e w2 ⟨s,F,rfl,cm,b2,hF⟩;have SE:Hid (Sn Se w2 w.heap.size s (ZE R) []):=Zh ⟨F,cm,fun k Y=>by have:=hF k Y;have:=B1.out.size;omega⟩;have B2:=Zh (B1.out.trans (b2.mono B1.out.size));clear cm b2 hF;go_wp2_with fail;refine(Rx l A m c 25 _ HM.out cz (by omega) (HH.out.on B2.out) (fun a ha=>⟨(HF.out a ha).bl,(HF.out a ha).pl⟩)).mono ?_;rintro e w' ⟨rfl,hf⟩;rcases hf with rfl|⟨rfl,h25,hsh⟩
 ·go_wp2_with fail;go_ret;exact⟨by first|rfl|simp,B2.out⟩
 have HS:=Zh hsh;have db:m<=25:=(by have:=HM.out;omega);have G0:Hid (SC (ZE R)):=Zh (DU ck cl);clear hsh h25 B1;go_wp2_with fail;go_loopw [8] (fun si wr=>tw Se w s m si wr) (fun si _=>m-(intOf si).toNat)
 case atStart=>exact⟨0,ZE R,[],by omega,rfl,by show(1:Int)<=_;omega,SE,G0,B2⟩
 case round=>
  obtain⟨k,d,rs,Y,rfl,dc,HP,HG,HW⟩:=hrel;obtain⟨W,rfl⟩:∃W:World,W=wr:=⟨_,rfl⟩;by_cases dd:k<m
  ·have bu:k<l.length:=(by have:=HM.out;omega);obtain⟨b,o,rfl,hb,g0,g1,g2,g3,g4,g5⟩:=Hj HH.out bu;have cn:Hid (∀y,fA w y->pK y l[k]):=Zh (fun y h=>((HF.out _ (List.getElem_mem bu)).on h));have co:Hid (qS l[k]):=Zh (HS.out _ (List.getElem_mem bu));have GC:Hid (∀y,fA w y->y.cell? ⟨b,o+k*6,none⟩=some (aA l[k].kind)/\y.cell? ⟨b,o+k*6+1,none⟩=some (aA l[k].id)/\y.cell? ⟨b,o+k*6+2,none⟩=some (aA l[k].n)/\
    y.cell? ⟨b,o+k*6+3,none⟩=some (bA l[k].txt)/\y.cell? ⟨b,o+k*6+4,none⟩=some (.slice l[k].sb.A l[k].sb.n l[k].sb.c)/\y.cell? ⟨b,o+k*6+5,none⟩=some (.slice l[k].sp.A l[k].sp.n l[k].sp.c)):=Zh (fun y h=>⟨(h.cell hb).trans g0,(h.cell hb).trans g1,(h.cell hb).trans g2,(h.cell hb).trans g3,(h.cell hb).trans g4,(h.cell hb).trans g5⟩)
   generalize l[k]=a at GC cn co;clear bu g0 g1 g2 g3 g4 g5;have cp:Hid (jA 11 #[lA s] W fun e w'=>∃(p:Nat) (x:Dx),e= .returned (lA p)/\Dc w' W.heap.size p x/\x.d=d/\fA W w'):=Zh (by
    obtain⟨F1,f1,_⟩:=HP.out;exact X.out.doc W s F1 d rs f1 HG.out (by omega))
   go_wp2_with fail;refine cp.out.mono ?_;rintro e w1 ⟨p1,L,rfl,bv,cq,b1⟩;have D1:=Zh bv;have J:=Zh cq;have aj:=Zh (HW.out.trans (b1.mono HW.out.size));have S1:Hid (Sx Se w1 w.heap.size (fC p1 L) s d rs):=Zh (HP.out.sx X.out b1 (fun k Y=>bv.ge Y));have CX:=Zh (Ur X.out S1.out (fun k Y=>bv.lt Y) aj.out.size (X.out.wo WO.out aj.out) HG.out (by omega) a (P22.qS.sw co.out) (fun y h=>cn.out y (aj.out.trans (h.eD (fun i _ hi=>hi.1) aj.out.size))));have ae:=Zh (Un (d:=d) a.mF);have bw:=Zh (IV (d:=d) a.mF);have DB:=Zh (jR HG.out.1 a.mF);have GD:=Zh (fV HG.out a.mF);rw[show a.mF.kind=a.kind from rfl] at ae;obtain⟨r,hr⟩:=DA (NC d a.mF);rw[hr] at CX ae bw DB GD;clear hr bv cq b1 cp;obtain⟨F,f1,fn,cr⟩:=CX.out;have cs:=Zh cr;have FF:=Zh f1;have FN:=Zh fn;obtain⟨c0,c1,c2,c3,c4,c5⟩:=GC.out w1 aj.out;clear cr f1 fn CX;go_wp2_with fail;refine cs.out.mono ?_;rintro e w2 ⟨rfl,s2,gL,b2⟩;have D2:Hid (Dc w2 W.heap.size p1 L):=Zh (D1.out.but gL (fun i hi e=>(FF.out i e).2 hi) FN.out);have ca:=Zh (aj.out.trans b2);have S2:=Zh s2;obtain⟨cd,bx⟩:=DA r.code;obtain⟨vt,ak⟩:=DA r.txt;obtain⟨vi,b3⟩:=DA r.id;obtain⟨vn,cb⟩:=DA (((r.s.2.length:Nat):Int));have VN:=Zh cb;rw[bx] at ae;rw[bx,ak,b3] at bw;rw[bx,ak,b3,cb];clear bx ak b3 cb s2 gL b2 FF FN cs S1 D1 aj c0 c1 c2 c3 c4 c5;have RX:Hid (bH (w2.alloc (.cells #[aA cd,bA vt,aA vi,aA vn] 38)) w2.heap.size cd vt vi vn):=Zh (bH.new w2 cd vt vi vn);have BX:Hid (fA w2 (w2.alloc (.cells #[aA cd,bA vt,aA vi,aA vn] 38))):=Zh (Zb _ _);go_upto_region 10 with fail;generalize w2.alloc (.cells #[aA cd,bA vt,aA vi,aA vn] 38)=w3 at RX BX|-;obtain⟨gr,ct⟩:=DA w2.heap.size;have bz:=Zh (ca.out.trans (BX.out.mono ca.out.size));have D3:=Zh (D2.out.below BX.out);have S3:Hid (Sx Se w3 w.heap.size (fC p1 L) s r.s.1 r.s.2):=Zh (S2.out.below X.out BX.out (fun k Y=> .inl Y));rw[ct] at RX|-;have cu:=Zh (Hu X.out S3.out GD.out (by have:=DB.out.1;omega));clear ct BX D2 S2 ca;go_wp2_with fail;refine cu.out.mono ?_;rintro e w4 ⟨p2,I,rfl,cc,cv,b4⟩;have az:Hid (Dc w4 w.heap.size p2 I):=Zh (cc.dE bz.out.size);have ce:=Zh cv;have al:=Zh (D3.out.below b4);have a8:=Zh (bz.out.trans (b4.mono bz.out.size));have S4:Hid (Sx Se w4 w.heap.size (fC p2 I) s r.s.1 r.s.2):=Zh (S3.out.below X.out b4 (fun k Y=> .inr (cc.ge Y)));have R4:=Zh (RX.out.below b4 RX.out.lt);have b0:w.heap.size<=w.heap.size:=Zl;obtain⟨c0,c1,c2,c3,_,_⟩:=GC.out w4 a8.out;have k0:=c0;clear c0 c1 c2 c3 cc cv b4 cu S3 D3 bz RX GC;have c0:=R4.out.c0;have c1:=R4.out.c1;have c2:=R4.out.c2;have c3:=R4.out.c3;by_cases b8:cd=0
   ·have p0:(cd != 0)=false:=(by simpa using b8);by_cases d8:6<=a.kind
    ·have d9:=True.intro;have IY:=Zh (And.intro (ae.out (.inr d8)) True.intro);obtain⟨am,_⟩:=IY.out;have M:Hid (I.d=d):=Zh (by rw[ce.out,am]);have ba:vn=0:=(by rw[<-VN.out,am];rfl);subst ba;clear IY am ae;have HL:Hid (L.l=I.l):=Zh (congrArg D.l (J.out.trans M.out.symm));obtain⟨nl,a9⟩:=DA L.rs.length;have aa:=Zh a9;have ab:Hid (I.rs.length=nl):=Zh (by rw[<-a9,<-dG,<-dG,HL.out]);have cw:nl<=200:=(by have h1:=HG.out.1.VJ;rw[<-J.out] at h1;rw[<-a9];simpa[Dx.d,Dx.l] using h1);obtain⟨nn,ac⟩:=DA L.n;have an:=Zh ac;have ao:Hid (I.n=nn):=Zh (by rw[<-ac];have h1:=congrArg D.n J.out;have h2:=congrArg D.n M.out;exact h2.trans h1.symm);have cx:nn<=90000:=(by rw[<-ac];have h1:=congrArg D.n J.out;have h2:L.d.n=L.n:=rfl;omega);obtain⟨cf,N⟩:=DA L.nB;have bb:=Zh N;have bc:Hid (I.nB=cf):=Zh (by rw[<-N];have h1:=congrArg D.nB J.out;have h2:=congrArg D.nB M.out;exact h2.trans h1.symm);have bd:Hid (WF L.d):=Zh (by rw[J.out];exact HG.out.1);have be:Hid (WF I.d):=Zh (by rw[M.out];exact HG.out.1);clear a9 ac N;have I1:=Zh (zR w4 (by have:=aa.out;omega) al.out);go_wp2_with fail;refine I1.out.mono ?_;rintro e w5 ⟨A5,n5,c5,rfl,o5,b5⟩;obtain⟨g1,g2,g3,g4,g5⟩:=UE o5 rfl;obtain rfl:n5=nl:=by rw[<-g1,<-aa.out];simp[MA,Dx.l]
     have HK:=Zh g5;have ap:=Zh (a8.out.trans (b5.mono a8.out.size));have bf:=Zh (al.out.below b5);have aq:=Zh (az.out.below b5);have S5:Hid (Sx Se w5 w.heap.size (fC p2 I) s r.s.1 r.s.2):=Zh (S4.out.below X.out b5 (fun k Y=> .inl Y));have R5:=Zh (R4.out.below b5 R4.out.lt);clear o5 b5 g1 g2 g3 g4 g5 I1 al az S4 R4 a8 c0 c1 c2 c3;have I2:=Zh (zR w5 (by have:=ab.out;omega) aq.out);go_wp2_with fail;refine I2.out.mono ?_;rintro e t ⟨A6,n6,c6,rfl,o6,b6⟩;obtain⟨g1,g2,g3,g4,g5⟩:=UE o6 rfl;obtain rfl:n6=n5:=by rw[<-g1,<-ab.out];simp[MA,Dx.l]
     have ar:=Zh (ap.out.trans (b6.mono ap.out.size));have O:=Zh (bf.out.below b6);have P:=Zh (aq.out.below b6);have bg:=Zh (HK.out.on b6);have S6:Hid (Sx Se t w.heap.size (fC p2 I) s r.s.1 r.s.2):=Zh (S5.out.below X.out b6 (fun k Y=> .inl Y));have R6:=Zh (R5.out.below b6 R5.out.lt);clear o6 b6 g1 g2 g3 g4 g5 I2 bf aq S5 R5 ap HK;have N1:=Zh (iI (m:=nn+1) t (by rw[an.out];omega) (by rw[an.out]) O.out);go_wp2_with fail;refine N1.out.mono ?_;rintro e w' ⟨rfl,rfl⟩;have N2:=Zh (iI (m:=nn+1) t (by rw[ao.out];omega) (by rw[ao.out]) P.out);clear N1;go_wp2_with fail;refine N2.out.mono ?_;rintro e w' ⟨rfl,rfl⟩;have F1:=Zh (LO t O.out);rw[bb.out] at F1;clear N2;go_wp2_with fail;refine F1.out.mono ?_;rintro e w' ⟨rfl,rfl⟩;have F2:=Zh (LO t P.out);rw[bc.out] at F2;have r3:=R6.out.c3;clear F1;go_wp2_with fail;refine F2.out.mono ?_;rintro e w' ⟨rfl,rfl⟩;clear F2;go_wp2_with fail;clear r3;go_loopw [13] (fun sk wk=>∃j:Nat,j<=n6/\sk = aA j/\Hid (fA t wk)) (fun sk _=>n6-(intOf sk).toNat)
     case atStart=>exact⟨0,by omega,rfl,Zh Ze⟩
     case round=>
      obtain⟨j,hj,rfl,HB⟩:=hrel;obtain⟨wk,rfl⟩:∃wo:World,wo=wr:=⟨_,rfl⟩;have cg:=HB.out.size;by_cases da:j<n6
      ·have Q:j<L.rs.length:=(by have:=aa.out;omega);have bh:j<I.rs.length:=(by have:=ab.out;omega);obtain⟨ib,io,rfl,ch,au⟩:=yE bg.out (k:=j) (by simp[MA,Dx.l];exact Q);obtain⟨nd,S⟩:=DA (L.rs[j].nd);have af:(MA L.l)[j]'(by simp[MA,Dx.l];exact Q)=nd.id:=(by rw[<-S];simp[MA,Dx.l]);rw[af] at au;have av:Hid (∀y,fA t y->y.cell? ⟨ib,io+j,none⟩=some (aA nd.id)):=Zh (fun y h=>(h.cell ch).trans au);obtain⟨f1,f2,f3,f4,f5,f6,f7⟩:=mP O.out bd.out Q;rw[S] at f1 f2;have aw:=Zh S;have ax:Hid (I.rs[j].nd=nd):=Zh (by
        have e:L.l[j]'(by rw[dG];exact Q)=I.l[j]'(by rw[dG];exact bh):=by
         have:=HL.out;congr 1
        rw[<-S];simp only[Dx.l,List.getElem_map] at e;exact e.symm)
       have T1:=Zh (VL nd.id (k:=j) (nd:=nd) wk Q (by rw[aw.out]) aw.out f1 f2 (O.out.below HB.out));have T2:Hid (∀y,fA t y->jA 18 #[lA p2,aA nd.id] y (QP y nd)):=Zh (fun y h=>VL nd.id (k:=j) (nd:=nd) y bh (by rw[ax.out]) ax.out f1 f2 (P.out.below h));have ic:=av.out wk HB.out;clear f3 f4 f5 f6 f7 S af au;go_wp2_with fail;refine T1.out.mono ?_;rintro e w7 ⟨A7,n7,c7,A8,n8,c8,rfl,ha,ho,b7⟩;have N7:Hid (lB (w7.alloc (.cells #[aA nd.id,aA nd.par,bA nd.tag,bA nd.txt,bA nd.key,.slice A7 n7 c7,.slice A8 n8 c8,aA nd.note] 53)) w7.heap.size nd A7 n7 c7 A8 n8 c8):=Zh (lB.new _ _ _ _ _ _ _ _);have T:Hid (fA w7 (w7.alloc (.cells #[aA nd.id,aA nd.par,bA nd.tag,bA nd.txt,bA nd.key,.slice A7 n7 c7,.slice A8 n8 c8,aA nd.note] 53))):=Zh (Zb _ _);have HO:=Zh ho;have HA:=Zh ha;have B7:Hid (fA t w7):=Zh (HB.out.trans (b7.mono cg));have L7:Hid (nd.attrs.length=n7/\nd.kids.length=n8):=Zh ⟨ha.len,(UE ho rfl).1⟩;clear ha ho b7 T1 ic;go_upto_region 21 with fail;generalize w7.alloc (.cells #[aA nd.id,aA nd.par,bA nd.tag,bA nd.txt,bA nd.key,.slice A7 n7 c7,.slice A8 n8 c8,aA nd.note] 53)=w8 at N7 T|-;obtain⟨ga,bi⟩:=DA w7.heap.size;have B8:Hid (fA t w8):=Zh (B7.out.trans (T.out.mono B7.out.size));have bj:Hid (kI.AA w8 w8.heap.size (A8) nd.kids):=Zh ((UE HO.out rfl).2.2.2.2.on T.out);have bk:=Zh (HA.out.below T.out);rw[bi] at N7|-;clear HO HA B7 T bi;have bm:=Zh (T2.out w8 B8.out);have ic:=av.out w8 B8.out;go_wp2_with fail;refine bm.out.mono ?_;rintro e w9 ⟨A9,n9,c9,U,E,V,rfl,ha,ho,b9⟩;have Z:Hid (lB (w9.alloc (.cells #[aA nd.id,aA nd.par,bA nd.tag,bA nd.txt,bA nd.key,.slice A9 n9 c9,.slice U E V,aA nd.note] 53)) w9.heap.size nd A9 n9 c9 U E V):=Zh (lB.new _ _ _ _ _ _ _ _);have z:Hid (fA w9 (w9.alloc (.cells #[aA nd.id,aA nd.par,bA nd.tag,bA nd.txt,bA nd.key,.slice A9 n9 c9,.slice U E V,aA nd.note] 53))):=Zh (Zb _ _);have HO:=Zh ho;have HA:=Zh ha;have B9:Hid (fA t w9):=Zh (B8.out.trans (b9.mono B8.out.size));have bn:=Zh (bj.out.on b9);have bo:=Zh (bk.out.below b9);have N9:=Zh (NQ N7.out b9);have L9:Hid (nd.attrs.length=n9/\nd.kids.length=E):=Zh ⟨ha.len,(UE ho rfl).1⟩;clear ha ho b9 bm ic bj bk N7 B8 T2 av;go_upto_region 22 with fail;generalize w9.alloc (.cells #[aA nd.id,aA nd.par,bA nd.tag,bA nd.txt,bA nd.key,.slice A9 n9 c9,.slice U E V,aA nd.note] 53)=bp at Z z|-;have ay:Hid (fA t bp):=Zh (B9.out.trans (z.out.mono B9.out.size));obtain rfl:n9=n7:=by rw[<-L9.out.1,L7.out.1]
       obtain rfl:E=n8:=by rw[<-L9.out.2,L7.out.2]
       have CS:=Zh (l6 nd A7 A8 A9 U n9 c7 E c8 c9 V bp L7.out.1 L7.out.2 (by have:=L7.out.1;omega) (by have:=L7.out.2;omega) (bo.out.below z.out).holds (bn.out.on z.out) (HA.out.below z.out).holds ((UE HO.out rfl).2.2.2.2.on z.out));have u:=Zh (NQ N9.out z.out);have a0:=u.out.c0;have a1:=u.out.c1;have a2:=u.out.c2;have a3:=u.out.c3;have a4:=u.out.c4;have a5:=u.out.c5;have a6:=u.out.c6;have a7:=u.out.c7;have d0:=Z.out.c0;have d1:=Z.out.c1;have d2:=Z.out.c2;have d3:=Z.out.c3;have d4:=Z.out.c4;have d5:=Z.out.c5;have d6:=Z.out.c6;have d7:=Z.out.c7;clear bn bo HO HA N9 u Z z B9 L7 L9 aw ax;go_wp2_with fail;refine CS.out.mono ?_;rintro e ci ⟨rfl,bq⟩;have cj:Hid (fA t ci):=Zh (ay.out.trans (bq.mono ay.out.size));clear bq CS ay;go_wp2_with fail;go_roundw
       case rel=>exact⟨j+1,by omega,by go_num,cj⟩
       case measure=>simp[intOf];omega
      ·obtain rfl:j=n6:=by omega
       have ad:=Zh (ar.out.trans (HB.out.mono ar.out.size));have G:=Zh (P.out.below HB.out);have SK:Hid (Sx Se wk w.heap.size (fC p2 I) s r.s.1 r.s.2):=Zh (S6.out.below X.out HB.out (fun k Y=> .inl Y));have RK:=Zh (R6.out.below HB.out R6.out.lt);clear O P S6 R6 ar bg HL aa ab an ao bb bc bd be M;have c0:=RK.out.c0;have c1:=RK.out.c1;have c2:=RK.out.c2;have CN:=Zh (fR 1 12345 wk G.out);clear RK;go_wp2_with fail;refine CN.out.mono ?_;rintro e wn ⟨rfl,xn,q,br⟩;have ag:Hid (fA w wn):=Zh (ad.out.trans ((aC.eD G.out q).mono b0));have SN:Hid (Sx Se wn w.heap.size (fC p2 xn) s r.s.1 r.s.2):=Zh (Sx.YI X.out SK.out G.out q);have DN:=Zh q.dc;clear q br CN c0 c1 c2 SK G ad;obtain⟨vv,B⟩:=DA (QA (JE I.d 1 12345).1);rw[B];clear B;have CF:=Zh (oQ 1 wn DN.out);go_wp2_with fail;refine CF.out.mono ?_;rintro e wf ⟨rfl,xf,C,bs⟩;have ah:Hid (fA w wf):=Zh (ag.out.trans ((aC.eD DN.out C).mono b0));have bt:Hid (Sn Se wf w.heap.size s r.s.1 r.s.2):=Zh (Sx.YI X.out SN.out DN.out C).sn;clear C bs CF DN SN ag;obtain⟨vv,B⟩:=DA (QA (gE xn.d 1).1);rw[B];clear B;have ai:r.s.1.n<=1+400*((k:Int)+1):=(by have:=DB.out.1;omega);clear DB;go_wp2_with fail;go_roundw
       case rel=>exact⟨k+1,r.s.1,r.s.2,by omega,by go_num,by push_cast;exact ai,bt,GD,ah⟩
       case measure=>simp[intOf];omega
    ·clear ae bw b8 VN J ce al;go_wp2_with fail;have ad:=a8;have G:=az;have SK:=S4;have RK:=R4;obtain⟨wk,cy⟩:∃y,y=w4:=⟨_,rfl⟩;rw[<-cy] at ad G SK RK|-;clear cy a8 az S4 R4 c0 c1 c2 c3 k0;have c0:=RK.out.c0;have c1:=RK.out.c1;have c2:=RK.out.c2;have CN:=Zh (fR 1 12345 wk G.out);clear RK;go_wp2_with fail;refine CN.out.mono ?_;rintro e wn ⟨rfl,xn,q,br⟩;have ag:Hid (fA w wn):=Zh (ad.out.trans ((aC.eD G.out q).mono b0));have SN:Hid (Sx Se wn w.heap.size (fC p2 xn) s r.s.1 r.s.2):=Zh (Sx.YI X.out SK.out G.out q);have DN:=Zh q.dc;clear q br CN c0 c1 c2 SK G ad;obtain⟨vv,B⟩:=DA (QA (JE I.d 1 12345).1);rw[B];clear B;have CF:=Zh (oQ 1 wn DN.out);go_wp2_with fail;refine CF.out.mono ?_;rintro e wf ⟨rfl,xf,C,bs⟩;have ah:Hid (fA w wf):=Zh (ag.out.trans ((aC.eD DN.out C).mono b0));have bt:Hid (Sn Se wf w.heap.size s r.s.1 r.s.2):=Zh (Sx.YI X.out SN.out DN.out C).sn;clear C bs CF DN SN ag;obtain⟨vv,B⟩:=DA (QA (gE xn.d 1).1);rw[B];clear B;have ai:r.s.1.n<=1+400*((k:Int)+1):=(by have:=DB.out.1;omega);clear DB;go_wp2_with fail;go_roundw
     case rel=>exact⟨k+1,r.s.1,r.s.2,by omega,by go_num,by push_cast;exact ai,bt,GD,ah⟩
     case measure=>simp[intOf];omega
   ·have p0:(cd != 0)=true:=(by simpa using b8);obtain⟨_,ak,b3⟩:=bw.out b8;have ak:vt=⟨#[]⟩:=ak;subst ak;subst b3;have IY:=Zh (And.intro (ae.out (.inl b8)) True.intro);obtain⟨am,_⟩:=IY.out;have M:Hid (I.d=d):=Zh (by rw[ce.out,am]);have ba:vn=0:=(by rw[<-VN.out,am];rfl);subst ba;clear IY am ae;have HL:Hid (L.l=I.l):=Zh (congrArg D.l (J.out.trans M.out.symm));obtain⟨nl,a9⟩:=DA L.rs.length;have aa:=Zh a9;have ab:Hid (I.rs.length=nl):=Zh (by rw[<-a9,<-dG,<-dG,HL.out]);have cw:nl<=200:=(by have h1:=HG.out.1.VJ;rw[<-J.out] at h1;rw[<-a9];simpa[Dx.d,Dx.l] using h1);obtain⟨nn,ac⟩:=DA L.n;have an:=Zh ac;have ao:Hid (I.n=nn):=Zh (by rw[<-ac];have h1:=congrArg D.n J.out;have h2:=congrArg D.n M.out;exact h2.trans h1.symm);have cx:nn<=90000:=(by rw[<-ac];have h1:=congrArg D.n J.out;have h2:L.d.n=L.n:=rfl;omega);obtain⟨cf,N⟩:=DA L.nB;have bb:=Zh N;have bc:Hid (I.nB=cf):=Zh (by rw[<-N];have h1:=congrArg D.nB J.out;have h2:=congrArg D.nB M.out;exact h2.trans h1.symm);have bd:Hid (WF L.d):=Zh (by rw[J.out];exact HG.out.1);have be:Hid (WF I.d):=Zh (by rw[M.out];exact HG.out.1);clear a9 ac N;have I1:=Zh (zR w4 (by have:=aa.out;omega) al.out);go_wp2_with fail;refine I1.out.mono ?_;rintro e w5 ⟨A5,n5,c5,rfl,o5,b5⟩;obtain⟨g1,g2,g3,g4,g5⟩:=UE o5 rfl;obtain rfl:n5=nl:=by rw[<-g1,<-aa.out];simp[MA,Dx.l]
    have HK:=Zh g5;have ap:=Zh (a8.out.trans (b5.mono a8.out.size));have bf:=Zh (al.out.below b5);have aq:=Zh (az.out.below b5);have S5:Hid (Sx Se w5 w.heap.size (fC p2 I) s r.s.1 r.s.2):=Zh (S4.out.below X.out b5 (fun k Y=> .inl Y));have R5:=Zh (R4.out.below b5 R4.out.lt);clear o5 b5 g1 g2 g3 g4 g5 I1 al az S4 R4 a8 c0 c1 c2 c3;have I2:=Zh (zR w5 (by have:=ab.out;omega) aq.out);go_wp2_with fail;refine I2.out.mono ?_;rintro e t ⟨A6,n6,c6,rfl,o6,b6⟩;obtain⟨g1,g2,g3,g4,g5⟩:=UE o6 rfl;obtain rfl:n6=n5:=by rw[<-g1,<-ab.out];simp[MA,Dx.l]
    have ar:=Zh (ap.out.trans (b6.mono ap.out.size));have O:=Zh (bf.out.below b6);have P:=Zh (aq.out.below b6);have bg:=Zh (HK.out.on b6);have S6:Hid (Sx Se t w.heap.size (fC p2 I) s r.s.1 r.s.2):=Zh (S5.out.below X.out b6 (fun k Y=> .inl Y));have R6:=Zh (R5.out.below b6 R5.out.lt);clear o6 b6 g1 g2 g3 g4 g5 I2 bf aq S5 R5 ap HK;have N1:=Zh (iI (m:=nn+1) t (by rw[an.out];omega) (by rw[an.out]) O.out);go_wp2_with fail;refine N1.out.mono ?_;rintro e w' ⟨rfl,rfl⟩;have N2:=Zh (iI (m:=nn+1) t (by rw[ao.out];omega) (by rw[ao.out]) P.out);clear N1;go_wp2_with fail;refine N2.out.mono ?_;rintro e w' ⟨rfl,rfl⟩;have F1:=Zh (LO t O.out);rw[bb.out] at F1;clear N2;go_wp2_with fail;refine F1.out.mono ?_;rintro e w' ⟨rfl,rfl⟩;have F2:=Zh (LO t P.out);rw[bc.out] at F2;have r3:=R6.out.c3;clear F1;go_wp2_with fail;refine F2.out.mono ?_;rintro e w' ⟨rfl,rfl⟩;clear F2;go_wp2_with fail;clear r3;go_loopw [13] (fun sk wk=>∃j:Nat,j<=n6/\sk = aA j/\Hid (fA t wk)) (fun sk _=>n6-(intOf sk).toNat)
    case atStart=>exact⟨0,by omega,rfl,Zh Ze⟩
    case round=>
     obtain⟨j,hj,rfl,HB⟩:=hrel;obtain⟨wk,rfl⟩:∃wo:World,wo=wr:=⟨_,rfl⟩;have cg:=HB.out.size;by_cases da:j<n6
     ·have Q:j<L.rs.length:=(by have:=aa.out;omega);have bh:j<I.rs.length:=(by have:=ab.out;omega);obtain⟨ib,io,rfl,ch,au⟩:=yE bg.out (k:=j) (by simp[MA,Dx.l];exact Q);obtain⟨nd,S⟩:=DA (L.rs[j].nd);have af:(MA L.l)[j]'(by simp[MA,Dx.l];exact Q)=nd.id:=(by rw[<-S];simp[MA,Dx.l]);rw[af] at au;have av:Hid (∀y,fA t y->y.cell? ⟨ib,io+j,none⟩=some (aA nd.id)):=Zh (fun y h=>(h.cell ch).trans au);obtain⟨f1,f2,f3,f4,f5,f6,f7⟩:=mP O.out bd.out Q;rw[S] at f1 f2;have aw:=Zh S;have ax:Hid (I.rs[j].nd=nd):=Zh (by
       have e:L.l[j]'(by rw[dG];exact Q)=I.l[j]'(by rw[dG];exact bh):=by
        have:=HL.out;congr 1
       rw[<-S];simp only[Dx.l,List.getElem_map] at e;exact e.symm)
      have T1:=Zh (VL nd.id (k:=j) (nd:=nd) wk Q (by rw[aw.out]) aw.out f1 f2 (O.out.below HB.out));have T2:Hid (∀y,fA t y->jA 18 #[lA p2,aA nd.id] y (QP y nd)):=Zh (fun y h=>VL nd.id (k:=j) (nd:=nd) y bh (by rw[ax.out]) ax.out f1 f2 (P.out.below h));have ic:=av.out wk HB.out;clear f3 f4 f5 f6 f7 S af au;go_wp2_with fail;refine T1.out.mono ?_;rintro e w7 ⟨A7,n7,c7,A8,n8,c8,rfl,ha,ho,b7⟩;have N7:Hid (lB (w7.alloc (.cells #[aA nd.id,aA nd.par,bA nd.tag,bA nd.txt,bA nd.key,.slice A7 n7 c7,.slice A8 n8 c8,aA nd.note] 53)) w7.heap.size nd A7 n7 c7 A8 n8 c8):=Zh (lB.new _ _ _ _ _ _ _ _);have T:Hid (fA w7 (w7.alloc (.cells #[aA nd.id,aA nd.par,bA nd.tag,bA nd.txt,bA nd.key,.slice A7 n7 c7,.slice A8 n8 c8,aA nd.note] 53))):=Zh (Zb _ _);have HO:=Zh ho;have HA:=Zh ha;have B7:Hid (fA t w7):=Zh (HB.out.trans (b7.mono cg));have L7:Hid (nd.attrs.length=n7/\nd.kids.length=n8):=Zh ⟨ha.len,(UE ho rfl).1⟩;clear ha ho b7 T1 ic;go_upto_region 21 with fail;generalize w7.alloc (.cells #[aA nd.id,aA nd.par,bA nd.tag,bA nd.txt,bA nd.key,.slice A7 n7 c7,.slice A8 n8 c8,aA nd.note] 53)=w8 at N7 T|-;obtain⟨ga,bi⟩:=DA w7.heap.size;have B8:Hid (fA t w8):=Zh (B7.out.trans (T.out.mono B7.out.size));have bj:Hid (kI.AA w8 w8.heap.size (A8) nd.kids):=Zh ((UE HO.out rfl).2.2.2.2.on T.out);have bk:=Zh (HA.out.below T.out);rw[bi] at N7|-;clear HO HA B7 T bi;have bm:=Zh (T2.out w8 B8.out);have ic:=av.out w8 B8.out;go_wp2_with fail;refine bm.out.mono ?_;rintro e w9 ⟨A9,n9,c9,U,E,V,rfl,ha,ho,b9⟩;have Z:Hid (lB (w9.alloc (.cells #[aA nd.id,aA nd.par,bA nd.tag,bA nd.txt,bA nd.key,.slice A9 n9 c9,.slice U E V,aA nd.note] 53)) w9.heap.size nd A9 n9 c9 U E V):=Zh (lB.new _ _ _ _ _ _ _ _);have z:Hid (fA w9 (w9.alloc (.cells #[aA nd.id,aA nd.par,bA nd.tag,bA nd.txt,bA nd.key,.slice A9 n9 c9,.slice U E V,aA nd.note] 53))):=Zh (Zb _ _);have HO:=Zh ho;have HA:=Zh ha;have B9:Hid (fA t w9):=Zh (B8.out.trans (b9.mono B8.out.size));have bn:=Zh (bj.out.on b9);have bo:=Zh (bk.out.below b9);have N9:=Zh (NQ N7.out b9);have L9:Hid (nd.attrs.length=n9/\nd.kids.length=E):=Zh ⟨ha.len,(UE ho rfl).1⟩;clear ha ho b9 bm ic bj bk N7 B8 T2 av;go_upto_region 22 with fail;generalize w9.alloc (.cells #[aA nd.id,aA nd.par,bA nd.tag,bA nd.txt,bA nd.key,.slice A9 n9 c9,.slice U E V,aA nd.note] 53)=bp at Z z|-;have ay:Hid (fA t bp):=Zh (B9.out.trans (z.out.mono B9.out.size));obtain rfl:n9=n7:=by rw[<-L9.out.1,L7.out.1]
      obtain rfl:E=n8:=by rw[<-L9.out.2,L7.out.2]
      have CS:=Zh (l6 nd A7 A8 A9 U n9 c7 E c8 c9 V bp L7.out.1 L7.out.2 (by have:=L7.out.1;omega) (by have:=L7.out.2;omega) (bo.out.below z.out).holds (bn.out.on z.out) (HA.out.below z.out).holds ((UE HO.out rfl).2.2.2.2.on z.out));have u:=Zh (NQ N9.out z.out);have a0:=u.out.c0;have a1:=u.out.c1;have a2:=u.out.c2;have a3:=u.out.c3;have a4:=u.out.c4;have a5:=u.out.c5;have a6:=u.out.c6;have a7:=u.out.c7;have d0:=Z.out.c0;have d1:=Z.out.c1;have d2:=Z.out.c2;have d3:=Z.out.c3;have d4:=Z.out.c4;have d5:=Z.out.c5;have d6:=Z.out.c6;have d7:=Z.out.c7;clear bn bo HO HA N9 u Z z B9 L7 L9 aw ax;go_wp2_with fail;refine CS.out.mono ?_;rintro e ci ⟨rfl,bq⟩;have cj:Hid (fA t ci):=Zh (ay.out.trans (bq.mono ay.out.size));clear bq CS ay;go_wp2_with fail;go_roundw
      case rel=>exact⟨j+1,by omega,by go_num,cj⟩
      case measure=>simp[intOf];omega
     ·obtain rfl:j=n6:=by omega
      have ad:=Zh (ar.out.trans (HB.out.mono ar.out.size));have G:=Zh (P.out.below HB.out);have SK:Hid (Sx Se wk w.heap.size (fC p2 I) s r.s.1 r.s.2):=Zh (S6.out.below X.out HB.out (fun k Y=> .inl Y));have RK:=Zh (R6.out.below HB.out R6.out.lt);clear O P S6 R6 ar bg HL aa ab an ao bb bc bd be M;have c0:=RK.out.c0;have c1:=RK.out.c1;have c2:=RK.out.c2;have CN:=Zh (fR 1 12345 wk G.out);clear RK;go_wp2_with fail;refine CN.out.mono ?_;rintro e wn ⟨rfl,xn,q,br⟩;have ag:Hid (fA w wn):=Zh (ad.out.trans ((aC.eD G.out q).mono b0));have SN:Hid (Sx Se wn w.heap.size (fC p2 xn) s r.s.1 r.s.2):=Zh (Sx.YI X.out SK.out G.out q);have DN:=Zh q.dc;clear q br CN c0 c1 c2 SK G ad;obtain⟨vv,B⟩:=DA (QA (JE I.d 1 12345).1);rw[B];clear B;have CF:=Zh (oQ 1 wn DN.out);go_wp2_with fail;refine CF.out.mono ?_;rintro e wf ⟨rfl,xf,C,bs⟩;have ah:Hid (fA w wf):=Zh (ag.out.trans ((aC.eD DN.out C).mono b0));have bt:Hid (Sn Se wf w.heap.size s r.s.1 r.s.2):=Zh (Sx.YI X.out SN.out DN.out C).sn;clear C bs CF DN SN ag;obtain⟨vv,B⟩:=DA (QA (gE xn.d 1).1);rw[B];clear B;have ai:r.s.1.n<=1+400*((k:Int)+1):=(by have:=DB.out.1;omega);clear DB;go_wp2_with fail;go_roundw
      case rel=>exact⟨k+1,r.s.1,r.s.2,by omega,by go_num,by push_cast;exact ai,bt,GD,ah⟩
      case measure=>simp[intOf];omega
  ·obtain rfl:k=m:=by omega
   go_wp2_with fail;go_ret;exact⟨by first|rfl|simp,HW.out⟩
end P21
end Go.Proofs.YtimfajmknmlajaaGreatDoor
