/- A part of the proof. No condition. -/
import Derived.Deep.RegionHeld3
import Derived.Deep.DeepCutAuto
import Derived.Deep.CutBlock
import Derived.Deep.Cut
import Derived.Test.YtimfajmknmlajaaGreatDoorChecked
import Derived.WalkKit
import Derived.ProofKit
import Derived.Outline
import Derived.WalkLawsBesides
import Derived.WalkSpells
import Derived.Lib.Hide
import Derived.Lib.SlBytesConst
import Derived.Deep.RegionWith
import Derived.Test.YtimfajmknmlajaaGreatDoorM1
import Derived.Test.YtimfajmknmlajaaGreatDoorM3
import Derived.Test.YtimfajmknmlajaaGreatDoorM4
import Derived.Test.YtimfajmknmlajaaGreatDoorM5
import Derived.Test.YtimfajmknmlajaaGreatDoorM6
set_option linter.unusedVariables false
set_option linter.unusedSimpArgs false
set_option maxRecDepth 100000
set_option maxHeartbeats 40000000
namespace Go.Proofs.YtimfajmknmlajaaGreatDoor
open Go.Proofs.Tryz
namespace P5
open Go.RowKit Kd P4
variable{B q:Nat}
variable{B p:Nat}{x:Dx}
def Cc(w:World)(x:Dx)(e:Ending)(w':World):Prop:=∃(p':Nat) (x':Dx),e= .returned (lA p')/\Dc w' w.heap.size p' x'/\x'.d=x.d/\fA w w'
theorem Cl.start{w w3:World}{a':Nat}{v' vi':Value}(h:Dc w B p x)(hb:fA w w3)(ha:YB w3 w.heap.size a' x.R x.n v' (x.rs.map pB))(hi:kI.Own w3 w.heap.size vi' (MA x.l)):
 Cl w (w3.alloc (.cells #[lA a',vi',aA x.nB] 91)) x w3.heap.size a' v' vi' x.rs 0:=
 ⟨heap_alloc_new w3 _,hb.size,ha.below (Zb _ _) Zl,hi.alloc _,rfl,fun k _ _=>⟨rfl,fun _=>rfl⟩,fun k _ a=>absurd a dA,fun k _ a=>absurd a dA,fun k m _ _ _ b=>absurd b dA,hb.alloc hb.size _⟩
theorem oh(w:World)(hwf:WF x.d)(h:Dc w B p x):jA 35 #[lA p] w (Cc w x):=by
 have H:=Zh h;have Z:=Zh hwf;have hn:x.rs.length<=1000:=(by have:=hwf.VJ;rw[show x.d.l=x.l from rfl,dG] at this;omega);have c0:=h.c0;have c1:=h.c1;have c2:=h.c2;obtain⟨A,n,c,hv,_⟩:=h.ids.slice;obtain⟨h1,h2,h3,h4,h5⟩:=UE h.ids hv;have af:n<=1000000:=(by rw[<-h1];simp[MA,Dx.l];omega);have H1:=Zh h1;have H4:=Zh h4;have H5:=Zh h5;have Y:=JA h.zA;rw[hv] at c1;have E:(MA x.l).length=x.rs.length:=(by simp[MA,Dx.l]);have a0:=Zh E;clear h hwf h1 h2 h3 h4 h5 hv E;go_enter func35,ntmps35;go_upto_region 1 with fail;go_region_held3 (fun w'=>w'.cell? (cA p 0)=some (lA x.a)/\w'.cell? (cA p 1)=some (.slice A n c)/\w'.cell? (cA p 2)=some (aA x.nB)) (go_keep) ((first
  |(go_at_call 70;refine(Cg _ (by exact(H.drewN _).ar)).mono ?_;rintro e w1 ⟨u,v',rfl,a1,b1⟩;have ag:=Zh a1;have F:Hid (fA w w1):=Zh (((OC (Below.refl _ w) _)).trans b1);have k0:w1.cell? (cA p 0)=some (lA x.a):=(F.cell (p:=(cA p 0)) Y).trans c0;have k1:w1.cell? (cA p 1)=some (.slice A n c):=(F.cell (p:=(cA p 1)) Y).trans c1;have k2:w1.cell? (cA p 2)=some (aA x.nB):=(F.cell (p:=(cA p 2)) Y).trans c2;clear a1 b1)
  |(go_at_call 38;refine(nQ (MA x.l) A n c _ H1 af H4 (H5.on F)).mono ?_;rintro e v ⟨G,n1,f,rfl,o1,b2⟩;have O1:=Zh o1;have B2:=Zh (F.trans (b2.mono F.size));have ah:=Zh (ag.below b2 Zl);have k3:v.cell? (cA p 0)=some (lA x.a):=(B2.cell (p:=(cA p 0)) Y).trans c0;have k4:v.cell? (cA p 1)=some (.slice A n c):=(B2.cell (p:=(cA p 1)) Y).trans c1;have k5:v.cell? (cA p 2)=some (aA x.nB):=(B2.cell (p:=(cA p 2)) Y).trans c2;have ax:=Zh b2.size;clear o1 b2)
  |fail))
 have CS:=Zh (Cl.start H B2 ah (O1.dE F.size));obtain⟨g1,g2,g3,g4,g5⟩:=UE (O1.dE (B':=w.heap.size) F.size) rfl;have a2:n1=x.rs.length:=(by rw[<-g1];exact a0);have a3:Hid (kI.AA (v.alloc (.cells #[lA u,.slice G n1 f,aA x.nB] 91)) (v.alloc (.cells #[lA u,.slice G n1 f,aA x.nB] 91)).heap.size G (MA x.l)):=Zh (g5.on (Zb _ _));have a4:=Zh a2;have aw:n1<=1000:=dA;clear g1 g2 g3 g4 g5 a2 c0 c1 c2 k0 k1 k2 k3 k4 k5;have a5:v.heap.size<(v.alloc (.cells #[lA u,.slice G n1 f,aA x.nB] 91)).heap.size:=FA;generalize v.heap.size=o at CS a5|-;generalize v.alloc (.cells #[lA u,.slice G n1 f,aA x.nB] 91)=W at CS a3 a5|-;have q1:=iB 1 CS.zA;go_wp2_with fail;go_loopw [28] (fun L wr=>∃(j:Nat) (m:List Rw),j<=n1/\L = aA j/\Hid (Cl w wr x o u v' (.slice G n1 f) m j)/\Hid (∀(k:Nat) (hk:k<(MA x.l).length),∃M N,G=some (cA M N)/\wr.cell? ⟨M,N+k,none⟩=some (aA (MA x.l)[k]))) (fun L _=>n1-(intOf L).toNat)
 case atStart=>exact⟨0,x.rs,by omega,rfl,CS,Zh (fun k hk=>by obtain⟨M,N,hA,_,hc⟩:=yE a3 hk;exact⟨M,N,hA,hc⟩)⟩
 case round=>
  obtain⟨j,m,hj,rfl,s,HI⟩:=hrel;by_cases ay:j<n1
  ·have O:j<x.rs.length:=(IA a4.out);have y:j<m.length:=(IA s.len);have ai:j<(MA x.l).length:=(IA a0.out);obtain⟨M,N,rfl,hc⟩:=HI j ai;obtain⟨e1,e2⟩:=s.same j y O;have e3:=e2 Zl;have a7:(MA x.l)[j]=m[j].nd.id:=(by rw[e1];simp[MA,Dx.l]);rw[a7] at hc;have P:=H.nd O;rw[<-e3] at P;have Q:=Zh (P.SF s.below);obtain⟨a8,a9⟩:m[j].nd.attrs.length<=1000/\m[j].nd.kids.length<=1000:=by
    have hm:x.rs[j].nd∈x.d.l:=List.mem_map.2 ⟨_,List.getElem_mem O,rfl⟩;have h1:=Z.mC _ hm;have h2:=Z.SO hm;rw[e1];omega
   obtain⟨t,R⟩:=DA (m[j].b);have aj:=Zh R;obtain⟨nd,a⟩:=DA (m[j].nd);have q:=Zh a;obtain⟨Aa,na,ca,S⟩:∃A n c,m[j].va=⟨A,n,c⟩:=⟨_,_,_,rfl⟩;obtain⟨Ak,nk,ck,T⟩:∃A n c,m[j].vk=⟨A,n,c⟩:=⟨_,_,_,rfl⟩;have aa:Hid (wr.heap[t]? = some (.cells (bB nd Aa na ca Ak nk ck) 53 (0,0))):=Zh (by have:=Q.zA;rw[R,a,S,T] at this;exact this);have ak:Hid (ZB wr ⟨Aa,na,ca⟩ nd.attrs):=Zh (by have:=Q.mC;rw[a,S] at this;exact this);have al:Hid (kI.Own wr B (.slice Ak nk ck) nd.kids):=Zh (by have:=Q.kids;rw[a,T] at this;exact this);rw[a] at a8 a9 hc;clear e1 e2 e3 a7 P R a S T;have q0:=iB 0 s.zA;have ab:o<wr.heap.size:=JA s.zA;go_wp2_with fail;refine(nr nd.id wr y (by rw[q.out]) aj q0 s.ar).mono ?_;rintro e d ⟨rfl,b5⟩;have B5:=Zh b5;have I:=Zh ((b5.block t (JA aa)).trans aa);have e0:=iB 0 I;have e1:=iB 1 I;have e2:=iB 2 I;have e3:=iB 3 I;have e4:=iB 4 I;have e5:=iB 5 I;have e6:=iB 6 I;have e7:=iB 7 I;clear b5;go_wp2_with fail;refine(jP (B:=B) nd d (ak.below B5) a8 a9 (al.below B5 Zl)).mono ?_;rintro e r ⟨U,V,X,g,i,l,rfl,a6,o6,b6⟩;have B6:=Zh (B5.trans (b6.mono B5.size));have A6:=Zh a6;have O6:=Zh o6;have am:wr.heap.size<=d.heap.size:=B5.size;have an:o<r.heap.size:=(IA B6.size);have q6:r.cell? (cA o 0)=some (lA u):=(B6.cell (p:=(cA o 0)) ab).trans q0;have ao:=Zh (s.ar.below B6 Zl);clear a6 o6 b6 e0 e1 e2 e3 e4 e5 e6 e7 q0;go_upto_region 6 with fail;have ac:Hid (YB (r.alloc (.cells (bB nd U V X g i l) 53)) w.heap.size u x.R x.n v' (m.map pB)):=Zh (ao.below (Zb _ _) Zl);have q7:(r.alloc (.cells (bB nd U V X g i l) 53)).cell? (cA o 0)=some (lA u):=((Zb _ _).cell (p:=(cA o 0)) an).trans q6;have ad:Hid (r.alloc (.cells (bB nd U V X g i l) 53)=r.alloc (.cells (nd.cells ⟨U,V,X⟩ ⟨g,i,l⟩) 53)):=Zh rfl;have ap:Hid (fA r (r.alloc (.cells (bB nd U V X g i l) 53))):=Zh (Zb _ _);clear q6;generalize r.alloc (.cells (bB nd U V X g i l) 53)=W7 at ac q7 ad ap|-;have J:P4.uE (m.map pB) nd.id=true:=by
    have:=RU s.ar.xD (k:=j) (by simpa using y);rw[List.getElem_map] at this;rw[<-q.out];exact this
   have aq:=Zh J;clear J;go_wp2_with fail;refine(Kl nd.id r.heap.size W7 aq ac).mono ?_;rintro e w8 ⟨rfl,ae,K⟩;have CN:Hid (Cl w w8 x o u v' (.slice (some (cA M N)) n1 f) (m.set j ⟨r.heap.size,⟨U,V,X⟩,⟨g,i,l⟩,m[j].nd⟩) (j+1)):=Zh (by
    refine s.step y (C:=d.heap.size) B6 (by rw[q.out];exact A6) am (by rw[q.out];exact O6) (by rw[q.out];exact ae) ?_;rw[q.out,<-ad.out];exact K)
   have au:Hid (∀(k:Nat) (hk:k<(MA x.l).length),∃z D,(some (cA M N):vA)=some (cA z D)/\w8.cell? ⟨z,D+k,none⟩=some (aA (MA x.l)[k])):=Zh (fun k hk=>by
    obtain⟨_,_,_,_,hh⟩:=UE CN.ids rfl;obtain⟨z,D,e',_,av⟩:=yE hh hk;exact⟨z,D,e',av⟩)
   clear ae K q7;go_wp2_with fail;go_roundw
   case rel=>exact⟨j+1,_,by omega,by go_num,CN,au⟩
   case measure=>simp[intOf];omega
  ·obtain rfl:j=n1:=dA
   have CD:=Zh (Cl.done (by have:=s.out;rw[a4.out] at this;exact this));have BD:=Zh s.below;go_wp2_with fail;go_ret;exact⟨o,_,rfl,CD.1,CD.2,BD⟩
end P5
namespace P3
open Go.RowKit
end P3
namespace P19
open P5 P14 P16
def QB(l:List Nd)(i:Int):Ol:=match find l i with
 |some x=>⟨x.tag,x.key⟩
 |none=>⟨e0,e0⟩
def sC(l:List Nd)(i:Int):Nd:=(find l i).getD (IB 0 e0 e0 e0)
abbrev Rec:=Sg->Int->List Int->List PW->Sg
def cF(rec:Rec)(x:PW)(id:Int)(s:Sg):Sg:=
 let n:=sC s.1.l id
 let s2:=if x.kind=2/\n.txt.toList≠x.txt.toList then LA s (AE id x.txt) else s
 let a:=P3.lD n.attrs x.attrs
 let s3:=if x.kind=1/\P3.IE a n.attrs=false then LA s2 (MC id a) else s2
 if x.kind=1 then rec s3 id (xA s3.1.l id) x.kids else s3
def oF(rec:Rec)(par b:Int)(x:PW)(s:Sg):Sg:=
 let id:=s.1.n+1
 let s2:=LA (LA s (sB id x.tag x.txt x.key)) (LB id par b)
 let a:=P3.TC x.attrs
 let s3:=if a=[] then s2 else LA s2 (MC id a)
 if x.kind=1 then rec s3 id (xA s3.1.l id) x.kids else s3
def eF(rec:Rec)(par beh:Int)(ids:List Int)(x:PW)(t:Int)(p:Sg×List Int):Sg×List Int:=
 if x.kind=4 then(p.1,[])
 else if 0<=t then
  let id:=ids.getD t.toNat 0
  let m:=aD p.1 par p.2 beh id (p.2.idxOf id)
  if x.kind=3 then m else(cF rec x id m.1,m.2)
 else if x.kind=3 then p
 else(oF rec par (vB p.2 beh) x p.1,p.2)
def uB:Nat->Sg->Int->List Int->Int->List PW->Sg
 |0,s,_,_,_,_=>s
 |f+1,s,par,ids,beh,want=>
  let p:=(want.zip (foldM (ids.map (QB s.1.l)) want).take).foldl (fun p xt=>eF (fun s i ks w=>uB f s i ks 0 w) par beh ids xt.1 xt.2 p) (s,ids)
  cC p.2 p.1
def Kids(s:Sg)(par:Int)(ids:List Int):Prop:=∀i∈ids,nA s.1.l i=true/\EA s.1.l i=par
structure Lv(s0:Sg)(par:Int)(ids:List Int)(s:Sg):Prop where
 wf:WF s.1
 st:XE s0.1 s.1 par
 aB:Kids s par ids
section
variable{s0 s s':Sg}{par:Int}{ids:List Int}
theorem Bq{d:D}(hw:WF d){i:Int}(hi:i≠0):¬In d.l i i:=fun⟨_,hk⟩=>hw.tr.IL hi hk
theorem Lv.same(h0:WF s0.1)(h:Lv s0 par ids s)(hw:WF s'.1)(h1:∀y,nA s'.1.l y=nA s.1.l y)(h2:∀y,EA s'.1.l y=EA s.1.l y):Lv s0 par ids s':=
 ⟨hw,h.st.trans h0 h.wf (Jg h1 h2),fun i a=>⟨(h1 i).trans (h.aB i a).1,(h2 i).trans (h.aB i a).2⟩⟩
theorem Lv.text(h0:WF s0.1)(h:Lv s0 par ids s)(i:Int)(t:qA):Lv s0 par ids (LA s (AE i t)):=by
 obtain⟨a,b⟩:=Ii s.1 i t;exact h.same h0 (qE h.wf _) a b
theorem Lv.attr(h0:WF s0.1)(h:Lv s0 par ids s)(i:Int)(a:List P3.At):Lv s0 par ids (LA s (MC i a)):=by
 obtain⟨b,c⟩:=zQ s.1 i a;exact h.same h0 (qE h.wf _) b c
theorem Lv.put(h0:WF s0.1)(h:Lv s0 par ids s){i:Int}(hi:EA s.1.l i=par)(b:Int):Lv s0 par ids (LA s (LB i par b)):=by
 obtain⟨c,d⟩:=bR (p:=par) h.wf i b;have f:=ru (p:=par) h.wf (b:=b) hi;refine⟨qE h.wf _,h.st.trans h0 h.wf (Ji h.wf hi),fun j a=>?_⟩;refine⟨(c j).trans (h.aB j a).1,?_⟩;by_cases e:j=i
 ·subst e;exact f
 ·exact(d j e).trans (h.aB j a).2
theorem Lv.Od(h0:WF s0.1)(b:Int):∀(l:List Int) {s:Sg},Lv s0 par ids s->(∀i∈l,i∈ids)->Lv s0 par ids (VE par b l s)
 |[],_,h,_=>h
 |i:: l,s,h,hl=>by
  show Lv s0 par ids (VE par b l (LA s (LB i par b)));exact Lv.Od h0 b l (h.put h0 (h.aB i (hl i FA)).2 b) (fun j hj=>hl j (by simp[hj]))
theorem Lv.move(h0:WF s0.1)(h:Lv s0 par ids s){left:List Int}(hl:∀i∈left,i∈ids)(beh id:Int)(k:Nat)(hid:id∈ids):Lv s0 par ids (aD s par left beh id k).1:=by
 unfold aD;simp only;split
 ·exact h
 split
 ·exact h.put h0 (h.aB id hid).2 _
 ·exact Lv.Od h0 _ _ h (fun i a=>hl i (List.mem_of_mem_take a))
def tH(rec:Rec):Prop:=∀(s:Sg) (i:Int) (ks:List Int) (w:List PW),WF s.1->i≠0->Kids s i ks->ks.Nodup->WF (rec s i ks w).1/\XE s.1 (rec s i ks w).1 i
theorem fJ(h:WF s.1)(i:Int):Kids s i (xA s.1.l i)/\(xA s.1.l i).Nodup:=⟨fun c a=>⟨(h.tr.aB i c a).2.1,(h.tr.aB i c a).2.2⟩,h.tr.AD i⟩
theorem Lv.vx{rec:Rec}(R:tH rec)(h0:WF s0.1)(hp:par≠0)(h:Lv s0 par ids s){i:Int}(hi:nA s.1.l i=true)(hip:EA s.1.l i=par)(w:List PW):Lv s0 par ids (rec s i (xA s.1.l i) w):=by
 have a:i≠0:=h.wf.tr.jG hi;obtain⟨d,e⟩:=fJ h.wf i;obtain⟨f,b⟩:=R s i (xA s.1.l i) w h.wf a d e;refine⟨f,h.st.trans h0 h.wf (b.up hip),fun j g=>?_⟩;obtain⟨k,c⟩:=h.aB j g;have l:¬In s.1.l i j:=vV h.wf hp hip c;obtain⟨m,n⟩:=b j k l;exact⟨m,n.trans c⟩
theorem Lv.taken{rec:Rec}(R:tH rec)(h0:WF s0.1)(hp:par≠0)(h:Lv s0 par ids s){id:Int}(hid:id∈ids)(x:PW):Lv s0 par ids (cF rec x id s):=by
 unfold cF;simp only;have a:Lv s0 par ids (if x.kind=2/\(sC s.1.l id).txt.toList≠x.txt.toList then LA s (AE id x.txt) else s):=by
  split
  ·exact h.text h0 id x.txt
  ·exact h
 generalize (if x.kind=2/\(sC s.1.l id).txt.toList≠x.txt.toList then LA s (AE id x.txt) else s)=c at a;have b:Lv s0 par ids (if x.kind=1/\P3.IE (P3.lD (sC s.1.l id).attrs x.attrs) (sC s.1.l id).attrs=false then LA c (MC id (P3.lD (sC s.1.l id).attrs x.attrs)) else c):=by
  split
  ·exact a.attr h0 id _
  ·exact a
 generalize (if x.kind=1/\P3.IE (P3.lD (sC s.1.l id).attrs x.attrs) (sC s.1.l id).attrs=false then LA c (MC id (P3.lD (sC s.1.l id).attrs x.attrs)) else c)=d at b;split
 ·exact b.vx R h0 hp (b.aB id hid).1 (b.aB id hid).2 x.kids
 ·exact b
def QD(d d':D):Prop:=∀y,nA d.l y=true->nA d'.l y=true/\EA d'.l y=EA d.l y
theorem QD.lv(h0:WF s0.1)(h:Lv s0 par ids s)(hw:WF s'.1)(k:QD s.1 s'.1):Lv s0 par ids s':=
 ⟨hw,h.st.trans h0 h.wf (fun y b _=>k y b),fun i a=>⟨(k i (h.aB i a).1).1,(k i (h.aB i a).1).2.trans (h.aB i a).2⟩⟩
theorem U1{d d':D}(hw:WF d)(hw':WF d')(k:QD d d'){y:Int}(hy:nA d.l y=true):∀j,it (EA d'.l) j y=it (EA d.l) j y/\(it (EA d.l) j y=0\/nA d.l (it (EA d.l) j y)=true)
 |0=>⟨rfl,.inr hy⟩
 |j+1=>by
  obtain⟨e,hc⟩:=U1 hw hw' k hy j;rw[OF,OF,e];rcases hc with hc|hc
  ·rw[hc,hw.tr.zero,hw'.tr.zero];exact⟨rfl,.inl rfl⟩
  ·refine⟨(k _ hc).2,?_⟩;by_cases e0:EA d.l (it (EA d.l) j y)=0
   ·exact .inl e0
   ·exact .inr (hw.tr.rI e0)
theorem Ki(hw:WF s.1)(tag txt key:qA)(b:Int):QD s.1 (LA (LA s (sB (s.1.n+1) tag txt key)) (LB (s.1.n+1) par b)).1:=fun y d=>by
 obtain⟨e,f⟩:=dY s.1 (sB (s.1.n+1) tag txt key) hw d;have a:WF (LA s (sB (s.1.n+1) tag txt key)).1:=qE hw _;obtain⟨g,i⟩:=bR (p:=par) a (s.1.n+1) b;have c:y≠s.1.n+1:=(IA ((hw.pos d).2));exact⟨(g y).trans e,(i y c).trans f⟩
theorem Lv.new{rec:Rec}(R:tH rec)(h0:WF s0.1)(h:Lv s0 par ids s)(b:Int)(x:PW):Lv s0 par ids (oF rec par b x s):=by
 unfold oF;simp only;have l:=Ki (par:=par) h.wf x.tag x.txt x.key b;have d:WF (LA (LA s (sB (s.1.n+1) x.tag x.txt x.key)) (LB (s.1.n+1) par b)).1:=qE (qE h.wf _) _;generalize LA (LA s (sB (s.1.n+1) x.tag x.txt x.key)) (LB (s.1.n+1) par b)=f at l d;have a:QD s.1 (if P3.TC x.attrs=[] then f else LA f (MC (s.1.n+1) (P3.TC x.attrs))).1/\WF (if P3.TC x.attrs=[] then f else LA f (MC (s.1.n+1) (P3.TC x.attrs))).1:=by
  split
  ·exact⟨l,d⟩
  ·obtain⟨n,o⟩:=zQ f.1 (s.1.n+1) (P3.TC x.attrs);exact⟨fun y i=>⟨(n y).trans (l y i).1,(o y).trans (l y i).2⟩,qE d _⟩
 generalize (if P3.TC x.attrs=[] then f else LA f (MC (s.1.n+1) (P3.TC x.attrs)))=m at a;obtain⟨a,c⟩:=a;split
 ·have k:s.1.n+1≠0:=(IA h.wf.n0);obtain⟨p,q⟩:=fJ c (s.1.n+1);obtain⟨r,t⟩:=R m (s.1.n+1) _ x.kids c k p q;refine QD.lv h0 h r (fun y i=>?_);obtain⟨u,v⟩:=a y i;have w:¬In m.1.l (s.1.n+1) y:=by
   rintro⟨j,z⟩;obtain⟨e,g⟩:=U1 h.wf c a i (j+1);rw[z] at e;rcases g with g|g
   ·rw[g] at e;exact k e
   ·rw[<-e] at g;have:=(h.wf.pos g).2;omega
  obtain⟨A,B⟩:=t y u w;exact⟨A,B.trans v⟩
 ·exact QD.lv h0 h c a
theorem Lv.Yc(h0:WF s0.1)(hp:par≠0):∀(l:List Int) {ids:List Int} {s:Sg},Lv s0 par ids s->(∀i∈l,i∈ids)->l.Nodup->WF (cC l s).1/\XE s0.1 (cC l s).1 par
 |[],_,_,h,_,_=>⟨h.wf,h.st⟩
 |i:: l,ids,s,h,hl,hd=>by
  obtain⟨hd1,hd2⟩:=List.nodup_cons.1 hd;have hi:=h.aB i (hl i FA);have h2:Lv s0 par l (LA s (ZC i)):=by
   refine⟨qE h.wf _,h.st.trans h0 h.wf (cY h.wf hi.2),fun j hj=>?_⟩;have hj2:=h.aB j (hl j (by simp[hj]));have hne:j≠i:=fun e=>hd1 (e▸hj)
   obtain⟨a1,a2⟩:=IT h.wf hj2.1 hne (vV h.wf hp hi.2 hj2.2);exact⟨a1,a2.trans hj2.2⟩
  exact Lv.Yc h0 hp l h2 (fun j hj=>hj) hd2
end
def OE:List Int->List Bool->List Int
 |i:: r,b:: bs=>if b then i:: OE r bs else OE r bs
 |_,_=>[]
theorem JH:∀(ids:List Int) (fl:List Bool),(OE ids fl).Sublist ids
 |[],fl=>by cases fl<;>exact List.Sublist.slnil
 |i:: r,[]=>List.nil_sublist _
 |i:: r,b:: bs=>by
  rw[OE];split
  ·exact(JH r bs).cons_cons _
  ·exact(JH r bs).cons _
theorem Y1:∀ids:List Int,OE ids (List.replicate ids.length true)=ids
 |[]=>rfl
 |i:: r=>by
  rw[List.length_cons,List.replicate_succ,OE,if_pos rfl,Y1 r]
theorem WY:∀(ids:List Int) (n:Nat),OE ids (List.replicate n false)=[]
 |[],n=>by cases n<;>rfl
 |i:: r,0=>rfl
 |i:: r,n+1=>by rw[List.replicate_succ,OE,if_neg pA,WY r n]
theorem cR:∀{ids:List Int} {fl:List Bool} {t:Nat} {a:Int},fl[t]? = some true->ids[t]? = some a->a∈OE ids fl
 |[],fl,t,a,_,h=>by simp at h
 |i:: r,[],t,a,h,_=>by simp at h
 |i:: r,b:: bs,0,a,h,h2=>by
  simp at h h2;subst h;subst h2;rw[OE,if_pos rfl];simp
 |i:: r,b:: bs,t+1,a,h,h2=>by
  rw[OE];have:=cR (ids:=r) (fl:=bs) (t:=t) (a:=a) (by simpa using h) (by simpa using h2);split
  ·exact List.mem_cons_of_mem _ this
  ·exact this
theorem J2:∀{ids:List Int} {fl:List Bool} {t:Nat} {a:Int},ids.Nodup->fl[t]? = some true->ids[t]? = some a->OE ids (fl.set t false)=(OE ids fl).erase a
 |[],fl,t,a,_,_,h=>by simp at h
 |i:: r,[],t,a,_,h,_=>by simp at h
 |i:: r,b:: bs,0,a,_,h,h2=>by
  simp at h h2;subst h;subst h2;rw[List.set_cons_zero,OE,OE,if_neg pA,if_pos rfl];simp
 |i:: r,b:: bs,t+1,a,hd,h,h2=>by
  obtain⟨h3,h4⟩:=List.nodup_cons.1 hd;have ih:=J2 (ids:=r) (fl:=bs) (t:=t) (a:=a) h4 (by simpa using h) (by simpa using h2);have ha:a∈r:=List.mem_of_getElem? (i:=t) (by simpa using h2);rw[List.set_cons_succ,OE,OE,ih];cases b with
  |false=>rfl
  |true=>
   have hne:i≠a:=fun e=>h3 (e▸ha)
   simp[hne]
theorem Cf{l:List Int}{a:Int}(h:a∈l):l.take (l.idxOf a)++l.drop (l.idxOf a+1)=l.erase a:=by
 rw[<-List.eraseIdx_eq_take_drop_succ,List.erase_eq_eraseIdx_of_idxOf rfl]
section
variable{rec:Rec}{s0 s:Sg}{par beh:Int}{ids:List Int}{want:List PW}{old:List Ol}
def oC(rec:Rec)(par beh:Int)(ids:List Int)(old:List Ol)(want:List PW)(s:Sg)(i:Nat):Sg×List Int:=
 ((want.zip (foldM old want).take).take i).foldl (fun p xt=>eF rec par beh ids xt.1 xt.2 p) (s,ids)
theorem take_len:(foldM old want).take.length=want.length:=(yQ old want).1
theorem xK{i:Nat}(hi:i<want.length):oC rec par beh ids old want s (i+1)=eF rec par beh ids want[i] ((foldM old want).take[i]'(by rw[take_len];exact hi)) (oC rec par beh ids old want s i):=by
 unfold oC;have a:i<(want.zip (foldM old want).take).length:=(by rw[List.length_zip,take_len];omega);rw[List.take_succ_eq_append_getElem a,List.foldl_append,List.getElem_zip];rfl
theorem Cq:(want.zip (foldM old want).take).foldl (fun p xt=>eF rec par beh ids xt.1 xt.2 p) (s,ids)=oC rec par beh ids old want s want.length:=by
 unfold oC;rw[List.take_of_length_le (by rw[List.length_zip,take_len];omega)]
structure At(par:Int)(ids:List Int)(old:List Ol)(want:List PW)(s:Sg)(i:Nat)(p:Sg×List Int):Prop where
 lv:Lv s par ids p.1
 left:p.2=OE ids (foldM old (want.take i)).left
theorem YU{i:Nat}(hi:i<want.length):((foldM old want).take[i]'(by rw[take_len];exact hi))=(tB want[i] old (foldM old (want.take i)).left old.length).1:=by
 have h:=take_at (old:=old) hi;rw[List.getElem?_eq_getElem (by rw[take_len];exact hi)] at h;exact Option.some.inj h
theorem mN(ho:old.length=ids.length){i:Nat}(hi:i<want.length)(h:0<=((foldM old want).take[i]'(by rw[take_len];exact hi))):
 ∃(j:Nat) (a:Int),((foldM old want).take[i]'(by rw[take_len];exact hi))=(j:Int)/\ids[j]? = some a/\(foldM old (want.take i)).left[j]? = some true/\want[i].kind≠4:=by
 rw[YU hi] at h|-;obtain⟨j,o,f,g,e,k,c,b⟩:=sT _ h;refine⟨j,ids[j]'dA,e,List.getElem?_eq_getElem dA,c,fun d=>?_⟩;unfold fD at b;rw[d] at b;simp at b
theorem At.step(R:tH rec)(h0:WF s.1)(hp:par≠0)(hd:ids.Nodup)(ho:old.length=ids.length){i:Nat}(hi:i<want.length){p:Sg×List Int}(h:At par ids old want s i p):
 At par ids old want s (i+1) (eF rec par beh ids want[i] ((foldM old want).take[i]'(by rw[take_len];exact hi)) p):=by
 have q:=FT (old:=old) hi;have w:=YU (old:=old) hi;unfold eF;by_cases m:want[i].kind=4
 ·rw[if_pos m];refine⟨h.lv,?_⟩;rw[q,UF,if_pos m];exact(WY _ _).symm
 ·rw[if_neg m];have r:(foldM old (want.take (i+1))).left=QG (foldM old (want.take i)).left ((foldM old want).take[i]'(by rw[take_len];exact hi)):=(by rw[q,UF,if_neg m,w]);by_cases b:0<=((foldM old want).take[i]'(by rw[take_len];exact hi))
  ·rw[if_pos b];obtain⟨j,a,t,n,u,_⟩:=mN ho hi b;have x:ids.getD ((foldM old want).take[i]'(by rw[take_len];exact hi)).toNat 0=a:=by
    rw[t];simp[List.getD,n]
   simp only[x];have d:a∈ids:=List.mem_of_getElem? n;have o:a∈p.2:=(by rw[h.left];exact cR u n);have e:∀c∈p.2,c∈ids:=fun c v=>by rw[h.left] at v;exact(JH _ _).subset v
   have f:=h.lv.move h0 e beh a (p.2.idxOf a) d;have g:(aD p.1 par p.2 beh a (p.2.idxOf a)).2=OE ids (foldM old (want.take (i+1))).left:=by
    show p.2.take (p.2.idxOf a)++p.2.drop (p.2.idxOf a+1)=_;rw[Cf o,r,QG,if_pos b,t,Int.toNat_natCast,J2 hd u n,h.left]
   by_cases k:want[i].kind=3
   ·rw[if_pos k];exact⟨f,g⟩
   ·rw[if_neg k];exact⟨f.taken R h0 hp d _,g⟩
  ·rw[if_neg b];have l:(foldM old (want.take (i+1))).left=(foldM old (want.take i)).left:=(by rw[r,QG,if_neg b]);by_cases k:want[i].kind=3
   ·rw[if_pos k];exact⟨h.lv,by rw[l];exact h.left⟩
   ·rw[if_neg k];exact⟨h.lv.new R h0 _ _,by rw[l];exact h.left⟩
theorem jM(R:tH rec)(h0:WF s.1)(hp:par≠0)(hk:Kids s par ids)(hd:ids.Nodup)(ho:old.length=ids.length):∀i,i<=want.length->At par ids old want s i (oC rec par beh ids old want s i)
 |0,_=>⟨⟨h0,XE.refl _ _,hk⟩,by
  show ids=OE ids (foldM old (want.take 0)).left;rw[List.take_zero];show ids=OE ids (List.replicate old.length true);rw[ho,Y1]⟩
 |i+1,hi=>by
  rw[xK dA];exact(jM R h0 hp hk hd ho i dA).step R h0 hp hd ho dA
theorem U2(R:tH rec)(h0:WF s.1)(hp:par≠0)(hk:Kids s par ids)(hd:ids.Nodup)(ho:old.length=ids.length):
 WF (cC (oC rec par beh ids old want s want.length).2 (oC rec par beh ids old want s want.length).1).1/\XE s.1 (cC (oC rec par beh ids old want s want.length).2 (oC rec par beh ids old want s want.length).1).1 par:=by
 have h:=jM (want:=want) (beh:=beh) R h0 hp hk hd ho want.length Zl;exact Lv.Yc h0 hp _ h.lv (fun i a=>by rw[h.left] at a;exact(JH _ _).subset a) (by rw[h.left];exact(JH _ _).nodup hd)
theorem KJ(f:Nat)(s:Sg)(par:Int)(ids:List Int)(beh:Int)(want:List PW):uB (f+1) s par ids beh want=cC (oC (fun s i ks w=>uB f s i ks 0 w) par beh ids (ids.map (QB s.1.l)) want s want.length).2 (oC (fun s i ks w=>uB f s i ks 0 w) par beh ids (ids.map (QB s.1.l)) want s want.length).1:=by
 rw[uB,Cq]
theorem oJ:∀f:Nat,tH (fun s i ks w=>uB f s i ks 0 w)
 |0=>fun s i ks w hw _ _ _=>⟨hw,XE.refl _ _⟩
 |f+1=>fun s i ks w hw hi hk hd=>by
  show WF (uB (f+1) s i ks 0 w).1/\XE s.1 (uB (f+1) s i ks 0 w).1 i;rw[KJ];exact U2 (oJ f) hw hi hk hd FA
theorem Y2(f:Nat){s:Sg}{par:Int}{ids:List Int}(beh:Int)(want:List PW)(hw:WF s.1)(hp:par≠0)(hk:Kids s par ids)(hd:ids.Nodup):WF (uB f s par ids beh want).1/\XE s.1 (uB f s par ids beh want).1 par:=by
 cases f with
 |zero=>exact⟨hw,XE.refl _ _⟩
 |succ f=>
  rw[KJ];exact U2 (oJ f) hw hp hk hd FA
end
mutual
def ZF:PW->Nat
 | .mk _ _ _ _ _ ks=>1+pC ks
def pC:List PW->Nat
 |[]=>0
 |x:: r=>ZF x+pC r
end
theorem Kg(a b:List PW):pC (a++b)=pC a+pC b:=by
 induction a with
 |nil=>simp[pC]
 |cons x r ih=>rw[List.cons_append,pC,pC,ih];omega
theorem U3{l:List PW}{i:Nat}(h:i<l.length):pC (l.take (i+1))=pC (l.take i)+ZF l[i]:=by
 rw[List.take_succ_eq_append_getElem h,Kg];simp[pC]
theorem nN(x:PW):ZF x=1+pC x.kids:=by cases x;rfl
theorem jI(s:Sg)(r:Rc):(LA s r).2.length<=s.2.length+1:=by unfold LA;simp only;split<;>simp
theorem cW(s:Sg)(r:Rc):(LA s r).1.n<=s.1.n+1:=(wR s.1 r).1
theorem XJ(s:Sg){r:Rc}(h:r.op≠1):(LA s r).1.n=s.1.n:=Y0 h
theorem LJ{d:D}(h:WF d)(i:Int):(xA d.l i).length<=200:=by
 unfold xA;cases hf:find d.l i with
 |none=>simp
 |some x=>exact h.SO (kG hf).1
def kM(rec:Rec):Prop:=∀(s:Sg) (i:Int) (ks:List Int) (w:List PW),WF s.1->i≠0->Kids s i ks->ks.Nodup->ks.length<=200->(rec s i ks w).1.n<=s.1.n+(pC w:Nat)/\(rec s i ks w).2.length<=s.2.length+200+2000*pC w
section
variable{rec:Rec}{s0 s:Sg}{par beh:Int}{ids:List Int}{want:List PW}{old:List Ol}
theorem Ba(RL:kM rec){i:Int}(hw:WF s.1)(hi:i≠0)(w:List PW):(rec s i (xA s.1.l i) w).1.n<=s.1.n+(pC w:Nat)/\(rec s i (xA s.1.l i) w).2.length<=s.2.length+200+2000*pC w:=by
 obtain⟨a,b⟩:=fJ hw i;exact RL s i _ w hw hi a b (LJ hw i)
theorem Li(RL:kM rec)(hw:WF s.1){id:Int}(hid:id≠0)(x:PW):(cF rec x id s).1.n<=s.1.n+(pC x.kids:Nat)/\(cF rec x id s).2.length<=s.2.length+202+2000*pC x.kids:=by
 unfold cF;simp only;have a:WF (if x.kind=2/\(sC s.1.l id).txt.toList≠x.txt.toList then LA s (AE id x.txt) else s).1/\(if x.kind=2/\(sC s.1.l id).txt.toList≠x.txt.toList then LA s (AE id x.txt) else s).1.n=s.1.n/\(if x.kind=2/\(sC s.1.l id).txt.toList≠x.txt.toList then LA s (AE id x.txt) else s).2.length<=s.2.length+1:=by
  split
  ·exact⟨qE hw _,XJ s (show(5:Int)≠1 by decide),jI _ _⟩
  ·exact⟨hw,rfl,by omega⟩
 generalize (if x.kind=2/\(sC s.1.l id).txt.toList≠x.txt.toList then LA s (AE id x.txt) else s)=c at a;obtain⟨d,f,g⟩:=a;have b:WF (if x.kind=1/\P3.IE (P3.lD (sC s.1.l id).attrs x.attrs) (sC s.1.l id).attrs=false then LA c (MC id (P3.lD (sC s.1.l id).attrs x.attrs)) else c).1/\(if x.kind=1/\P3.IE (P3.lD (sC s.1.l id).attrs x.attrs) (sC s.1.l id).attrs=false then LA c (MC id (P3.lD (sC s.1.l id).attrs x.attrs)) else c).1.n=c.1.n/\(if x.kind=1/\P3.IE (P3.lD (sC s.1.l id).attrs x.attrs) (sC s.1.l id).attrs=false then LA c (MC id (P3.lD (sC s.1.l id).attrs x.attrs)) else c).2.length<=c.2.length+1:=by
  split
  ·exact⟨qE d _,XJ c (show(4:Int)≠1 by decide),jI _ _⟩
  ·exact⟨d,rfl,by omega⟩
 generalize (if x.kind=1/\P3.IE (P3.lD (sC s.1.l id).attrs x.attrs) (sC s.1.l id).attrs=false then LA c (MC id (P3.lD (sC s.1.l id).attrs x.attrs)) else c)=i at b;obtain⟨e,j,k⟩:=b;split
 ·obtain⟨l,m⟩:=Ba RL e hid x.kids;exact⟨by omega,by omega⟩
 ·exact⟨by omega,by omega⟩
theorem Ca(RL:kM rec)(hw:WF s.1)(b:Int)(x:PW):(oF rec par b x s).1.n<=s.1.n+1+(pC x.kids:Nat)/\(oF rec par b x s).2.length<=s.2.length+203+2000*pC x.kids:=by
 unfold oF;simp only;have d:WF (LA (LA s (sB (s.1.n+1) x.tag x.txt x.key)) (LB (s.1.n+1) par b)).1:=qE (qE hw _) _;have e:(LA (LA s (sB (s.1.n+1) x.tag x.txt x.key)) (LB (s.1.n+1) par b)).1.n<=s.1.n+1:=by
  rw[XJ _ (show(2:Int)≠1 by decide)];exact cW _ _
 have f:(LA (LA s (sB (s.1.n+1) x.tag x.txt x.key)) (LB (s.1.n+1) par b)).2.length<=s.2.length+2:=Nat.le_trans (jI _ _) (by have:=jI s (sB (s.1.n+1) x.tag x.txt x.key);omega);generalize LA (LA s (sB (s.1.n+1) x.tag x.txt x.key)) (LB (s.1.n+1) par b)=a at d e f;have c:WF (if P3.TC x.attrs=[] then a else LA a (MC (s.1.n+1) (P3.TC x.attrs))).1/\(if P3.TC x.attrs=[] then a else LA a (MC (s.1.n+1) (P3.TC x.attrs))).1.n=a.1.n/\(if P3.TC x.attrs=[] then a else LA a (MC (s.1.n+1) (P3.TC x.attrs))).2.length<=a.2.length+1:=by
  split
  ·exact⟨d,rfl,by omega⟩
  ·exact⟨qE d _,XJ a (show(4:Int)≠1 by decide),jI _ _⟩
 generalize (if P3.TC x.attrs=[] then a else LA a (MC (s.1.n+1) (P3.TC x.attrs)))=j at c;obtain⟨g,k,l⟩:=c;split
 ·obtain⟨m,o⟩:=Ba RL (i:=s.1.n+1) g (IA hw.n0) x.kids;exact⟨by omega,by omega⟩
 ·exact⟨by omega,by omega⟩
theorem X3(hw:WF s.1)(left:List Int)(beh id:Int)(k:Nat):(aD s par left beh id k).1.1.n=s.1.n/\(aD s par left beh id k).1.2.length<=s.2.length+1+left.length:=by
 unfold aD;simp only;split
 ·exact⟨rfl,by omega⟩
 split
 ·exact⟨XJ s (show(2:Int)≠1 by decide),by have:=jI s (LB id par (vB left 0));omega⟩
 ·obtain⟨_,a,b⟩:=xR par (vB (left.drop (k+1)) beh) (left.take k) hw;rw[List.length_take] at b;exact⟨a,by omega⟩
theorem UM:∀(l:List Int) (s:Sg),(cC l s).1.n=s.1.n/\(cC l s).2.length<=s.2.length+l.length
 |[],s=>⟨rfl,by simp[cC]⟩
 |i:: l,s=>by
  obtain⟨h1,h2⟩:=UM l (LA s (ZC i));have h3:=jI s (ZC i);refine⟨h1.trans (XJ s (show(3:Int)≠1 by decide)),?_⟩;show(cC l (LA s (ZC i))).2.length<=_;simp only[List.length_cons];omega
theorem wV(R:tH rec)(RL:kM rec)(h0:WF s.1)(hp:par≠0)(hk:Kids s par ids)(hd:ids.Nodup)(hl:ids.length<=200)(ho:old.length=ids.length):∀i,i<=want.length->
 (oC rec par beh ids old want s i).1.1.n<=s.1.n+(pC (want.take i):Nat)/\(oC rec par beh ids old want s i).1.2.length<=s.2.length+2000*pC (want.take i)
 |0,_=>by
  show s.1.n<=s.1.n+(pC (want.take 0):Nat)/\s.2.length<=s.2.length+2000*pC (want.take 0);exact⟨by omega,by omega⟩
 |i+1,hi=>by
  obtain⟨a1,a2⟩:=wV R RL h0 hp hk hd hl ho i dA;have hA:=jM (want:=want) (beh:=beh) R h0 hp hk hd ho i dA;have hi':i<want.length:=dA;have hlen:(oC rec par beh ids old want s i).2.length<=200:=by
   rw[hA.left];exact Nat.le_trans (JH _ _).length_le hl
  have hw:=hA.lv.wf;have hkid:=hA.lv.aB;rw[xK hi',U3 hi',nN];generalize oC rec par beh ids old want s i=p at a1 a2 hlen hw hkid;unfold eF;split
  ·(try dsimp only);exact⟨by omega,by omega⟩
  split
  ·rename_i h4 ht;obtain⟨j,a,e1,e2,_,_⟩:=mN ho hi' ht;have hg:ids.getD ((foldM old want).take[i]'(by rw[take_len];exact hi')).toNat 0=a:=by
    rw[e1];simp[List.getD,e2]
   simp only[hg];obtain⟨m1,m2⟩:=X3 (par:=par) hw p.2 beh a (p.2.idxOf a);have hain:a∈ids:=List.mem_of_getElem? e2;have ha0:a≠0:=hw.tr.jG (hkid a hain).1;have hwm:WF (aD p.1 par p.2 beh a (p.2.idxOf a)).1.1:=by
    unfold aD;simp only;split
    ·exact hw
    split
    ·exact qE hw _
    ·exact(xR _ _ _ hw).1
   split
   ·(try dsimp only);exact⟨by omega,by omega⟩
   ·obtain⟨t1,t2⟩:=Li RL hwm ha0 want[i]
    (try dsimp only);exact⟨by omega,by omega⟩
  split
  ·(try dsimp only);exact⟨by omega,by omega⟩
  ·obtain⟨t1,t2⟩:=Ca (par:=par) RL hw (vB p.2 beh) want[i]
   (try dsimp only);exact⟨by omega,by omega⟩
theorem XY(R:tH rec)(RL:kM rec)(h0:WF s.1)(hp:par≠0)(hk:Kids s par ids)(hd:ids.Nodup)(hl:ids.length<=200)(ho:old.length=ids.length):
 (cC (oC rec par beh ids old want s want.length).2 (oC rec par beh ids old want s want.length).1).1.n<=s.1.n+(pC want:Nat)/\(cC (oC rec par beh ids old want s want.length).2 (oC rec par beh ids old want s want.length).1).2.length<=s.2.length+200+2000*pC want:=by
 obtain⟨b,c⟩:=wV (want:=want) (beh:=beh) R RL h0 hp hk hd hl ho want.length Zl;have d:=jM (want:=want) (beh:=beh) R h0 hp hk hd ho want.length Zl;have a:(oC rec par beh ids old want s want.length).2.length<=200:=by
  rw[d.left];exact Nat.le_trans (JH _ _).length_le hl
 rw[List.take_length] at b c;obtain⟨e,f⟩:=UM (oC rec par beh ids old want s want.length).2 (oC rec par beh ids old want s want.length).1;exact⟨by omega,by omega⟩
theorem AQ:∀f:Nat,kM (fun s i ks w=>uB f s i ks 0 w)
 |0=>fun s i ks w _ _ _ _ _=>by
  show s.1.n<=s.1.n+(pC w:Nat)/\s.2.length<=s.2.length+200+2000*pC w;exact⟨by omega,by omega⟩
 |f+1=>fun s i ks w hw hi hk hd hl=>by
  show(uB (f+1) s i ks 0 w).1.n<=_/\(uB (f+1) s i ks 0 w).2.length<=_;rw[KJ];exact XY (oJ f) (AQ f) hw hi hk hd hl FA
theorem YY(f:Nat){s:Sg}{par:Int}{ids:List Int}(beh:Int)(want:List PW)(hw:WF s.1)(hp:par≠0)(hk:Kids s par ids)(hd:ids.Nodup)(hl:ids.length<=200):
 (uB (f+1) s par ids beh want).1.n<=s.1.n+(pC want:Nat)/\(uB (f+1) s par ids beh want).2.length<=s.2.length+200+2000*pC want:=by
 rw[KJ];exact XY (oJ f) (AQ f) hw hp hk hd hl FA
end
def Cl(T:D->Prop):Prop:=∀d r,T d->T (YA d r).2
section
variable{T:D->Prop}{rec:Rec}{s:Sg}{par beh:Int}{ids:List Int}{want:List PW}{old:List Ol}
theorem uH(c:Cl T)(h:T s.1)(r:Rc):T (LA s r).1:=c _ _ h
theorem Da(c:Cl T)(par b:Int):∀(l:List Int) {s:Sg},T s.1->T (VE par b l s).1
 |[],_,h=>h
 |i:: l,s,h=>Da c par b l (uH c h _)
theorem yK(c:Cl T):∀(l:List Int) {s:Sg},T s.1->T (cC l s).1
 |[],_,h=>h
 |i:: l,s,h=>yK c l (uH c h _)
theorem Ea(c:Cl T)(h:T s.1)(par:Int)(left:List Int)(beh id:Int)(k:Nat):T (aD s par left beh id k).1.1:=by
 unfold aD;simp only;split
 ·exact h
 split
 ·exact uH c h _
 ·exact Da c _ _ _ h
def MP(T:D->Prop)(rec:Rec):Prop:=∀s i ks w,T s.1->T (rec s i ks w).1
theorem Yl(c:Cl T)(R:MP T rec)(x:PW)(id:Int)(h:T s.1):T (cF rec x id s).1:=by
 unfold cF;simp only;have a:T (if x.kind=2/\(sC s.1.l id).txt.toList≠x.txt.toList then LA s (AE id x.txt) else s).1:=by
  split
  ·exact uH c h _
  ·exact h
 generalize (if x.kind=2/\(sC s.1.l id).txt.toList≠x.txt.toList then LA s (AE id x.txt) else s)=d at a;have b:T (if x.kind=1/\P3.IE (P3.lD (sC s.1.l id).attrs x.attrs) (sC s.1.l id).attrs=false then LA d (MC id (P3.lD (sC s.1.l id).attrs x.attrs)) else d).1:=by
  split
  ·exact uH c a _
  ·exact a
 split
 ·exact R _ _ _ _ b
 ·exact b
theorem su(c:Cl T)(R:MP T rec)(par b:Int)(x:PW)(h:T s.1):T (oF rec par b x s).1:=by
 unfold oF;simp only;have a:=uH c (uH c h (sB (s.1.n+1) x.tag x.txt x.key)) (LB (s.1.n+1) par b);have d:T (if P3.TC x.attrs=[] then LA (LA s (sB (s.1.n+1) x.tag x.txt x.key)) (LB (s.1.n+1) par b) else LA (LA (LA s (sB (s.1.n+1) x.tag x.txt x.key)) (LB (s.1.n+1) par b)) (MC (s.1.n+1) (P3.TC x.attrs))).1:=by
  split
  ·exact a
  ·exact uH c a _
 split
 ·exact R _ _ _ _ d
 ·exact d
theorem Dq(c:Cl T)(R:MP T rec)(x:PW)(t:Int)(p:Sg×List Int)(h:T p.1.1):T (eF rec par beh ids x t p).1.1:=by
 unfold eF;split
 ·exact h
 split
 ·simp only;split
  ·exact Ea c h _ _ _ _ _
  ·exact Yl c R _ _ (Ea c h _ _ _ _ _)
 split
 ·exact h
 ·exact su c R _ _ _ h
theorem bO(c:Cl T)(R:MP T rec)(h:T s.1):∀i,i<=want.length->T (oC rec par beh ids old want s i).1.1
 |0,_=>h
 |i+1,hi=>by
  rw[xK dA];exact Dq c R _ _ _ (bO c R h i dA)
theorem tP(c:Cl T):∀f:Nat,MP T (fun s i ks w=>uB f s i ks 0 w)
 |0=>fun _ _ _ _ h=>h
 |f+1=>fun s i ks w h=>by
  show T (uB (f+1) s i ks 0 w).1;rw[KJ];exact yK c _ (bO c (tP c f) h _ Zl)
end
def vJ(d:D):Prop:=∀x∈d.l,P3.kC x.attrs=true
theorem Fq:P3.kC []=true:=P3.AI.2 ⟨by simp,fun a h=>absurd h FA,List.Pairwise.nil⟩
theorem yN{l:List Nd}{i:Int}{f:Nd->Nd}(h:∀x∈l,P3.kC x.attrs=true)(hf:∀x,P3.kC x.attrs=true->P3.kC (f x).attrs=true):∀x∈mB l i f,P3.kC x.attrs=true:=by
 intro z a;obtain⟨x,hx,rfl⟩:=FK.1 a;split
 ·exact hf x (h x hx)
 ·exact h x hx
theorem aZ{l:List Nd}(i:Int)(h:∀x∈l,P3.kC x.attrs=true):∀x∈UA l i,P3.kC x.attrs=true:=by
 unfold UA;split
 ·exact h
 ·exact yN (yN h (fun _ h=>h)) (fun _ h=>h)
theorem MK:Cl vJ:=fun d r h=>by
 unfold YA;split
 ·unfold rE;split
  ·exact h
  split
  ·exact h
  ·intro x hx;rcases List.mem_append.1 hx with hx|hx
   ·exact h x hx
   ·rw[List.mem_singleton] at hx;subst hx;exact Fq
 split
 ·unfold YD;split
  ·exact yN (yN (aZ _ h) (fun _ h=>h)) (fun _ h=>h)
  ·exact h
 split
 ·unfold uF;split
  ·exact h
  split
  ·exact h
  ·intro x hx;exact aZ _ h x (List.mem_filter.1 hx).1
 split
 ·unfold XD;split
  ·exact h
  split
  ·exact h
  split
  ·exact h
  ·rename_i hm;exact yN h (fun x _=>by show P3.kC r.attrs=true;simpa using hm)
 split
 ·unfold nF;split
  ·exact h
  split
  ·exact h
  split
  ·exact h
  ·exact yN h (fun _ h=>h)
 ·exact h
mutual
def dW:PW->Nat
 | .mk _ _ _ _ _ ks=>1+dL ks
def dL:List PW->Nat
 |[]=>0
 |x:: r=>max (dW x) (dL r)
end
theorem eW{x:PW}:∀{l:List PW},x∈l->dW x<=dL l
 |[],h=>by cases h
 |y:: r,h=>by
  rw[dL];rcases List.mem_cons.1 h with rfl|h
  ·omega
  ·have:=eW h;omega
theorem zN(x:PW):dW x=1+dL x.kids:=by cases x;rfl
section
variable{rec:Rec}{par beh:Int}{ids:List Int}{x:PW}{t:Int}{p:Sg×List Int}{j:Nat}{a:Int}
theorem Qi(h:x.kind=4):eF rec par beh ids x t p=(p.1,[]):=by unfold eF;rw[if_pos h]
theorem step_skip(h:x.kind=3)(ht:¬0<=t):eF rec par beh ids x t p=p:=by
 unfold eF;rw[if_neg dA,if_neg ht,if_pos h]
theorem AN(e:t=(j:Int))(hj:ids[j]? = some a):ids.getD t.toNat 0=a:=by
 rw[e];simp[List.getD,hj]
theorem Ri(h:x.kind=3)(e:t=(j:Int))(hj:ids[j]? = some a):eF rec par beh ids x t p=aD p.1 par p.2 beh a (p.2.idxOf a):=by
 unfold eF;rw[if_neg dA,if_pos dA];simp only[AN e hj];rw[if_pos h]
theorem dm(h4:x.kind≠4)(h3:x.kind≠3)(ht:¬0<=t):eF rec par beh ids x t p=(oF rec par (vB p.2 beh) x p.1,p.2):=by
 unfold eF;rw[if_neg h4,if_neg ht,if_neg h3]
theorem Mg(h4:x.kind≠4)(h3:x.kind≠3)(e:t=(j:Int))(hj:ids[j]? = some a):eF rec par beh ids x t p=(cF rec x a (aD p.1 par p.2 beh a (p.2.idxOf a)).1,(aD p.1 par p.2 beh a (p.2.idxOf a)).2):=by
 unfold eF;rw[if_neg h4,if_pos dA];simp only[AN e hj];rw[if_neg h3]
variable{s:Sg}{b id:Int}
def GF(par b:Int)(x:PW)(s:Sg):Sg:=LA (LA s (sB (s.1.n+1) x.tag x.txt x.key)) (LB (s.1.n+1) par b)
def XF(par b:Int)(x:PW)(s:Sg):Sg:=if P3.TC x.attrs=[] then GF par b x s else LA (GF par b x s) (MC (s.1.n+1) (P3.TC x.attrs))
theorem Fa(t:WV):GF par b (er t) s=LA (LA s (sB (s.1.n+1) t.tag t.txt t.key)) (LB (s.1.n+1) par b):=by
 unfold GF;rw[aF];rfl
theorem QL(t:WV):(er t).attrs=t.attrs:=by rw[aF];rfl
theorem XG(t:WV):(er t).kids=yA t.kids:=by rw[aF];rfl
theorem tu(t:WV):(er t).txt=t.txt:=by rw[aF];rfl
theorem Ga{t:WV}(h:P3.TC t.attrs=[]):XF par b (er t) s=GF par b (er t) s:=by
 unfold XF;rw[QL,if_pos h]
theorem Gq{t:WV}(h:P3.TC t.attrs≠[]):XF par b (er t) s=LA (GF par b (er t) s) (MC (s.1.n+1) (P3.TC t.attrs)):=by
 unfold XF;rw[QL,if_neg h]
theorem ZU(h:x.kind=1):oF rec par b x s=rec (XF par b x s) (s.1.n+1) (xA (XF par b x s).1.l (s.1.n+1)) x.kids:=by
 unfold oF;simp only;rw[if_pos h];rfl
theorem WN(h:x.kind≠1):oF rec par b x s=XF par b x s:=by
 unfold oF;simp only;rw[if_neg h];rfl
theorem eY(h:x.kind=2):cF rec x id s=if(sC s.1.l id).txt.toList≠x.txt.toList then LA s (AE id x.txt) else s:=by
 unfold cF;simp only;rw[if_neg dA,if_neg dA];by_cases a:(sC s.1.l id).txt.toList≠x.txt.toList
 ·rw[if_pos ⟨h,a⟩,if_pos a]
 ·rw[if_neg (fun e=>a e.2),if_neg a]
def qG(x:PW)(id:Int)(s:Sg):Sg:=if P3.IE (P3.lD (sC s.1.l id).attrs x.attrs) (sC s.1.l id).attrs=false then LA s (MC id (P3.lD (sC s.1.l id).attrs x.attrs)) else s
theorem Hq{t:WV}{nd:Nd}(h:sC s.1.l id=nd):qG (er t) id s=if P3.IE (P3.lD nd.attrs t.attrs) nd.attrs=false then LA s (MC id (P3.lD nd.attrs t.attrs)) else s:=by
 unfold qG;rw[h,QL]
theorem JT(h:x.kind=1):cF rec x id s=rec (qG x id s) id (xA (qG x id s).1.l id) x.kids:=by
 unfold cF qG;simp only;rw[if_pos h,if_neg (show¬(x.kind=2/\(sC s.1.l id).txt.toList≠x.txt.toList) from fun e=>by have:=e.1;omega)];by_cases a:P3.IE (P3.lD (sC s.1.l id).attrs x.attrs) (sC s.1.l id).attrs=false
 ·rw[if_pos ⟨h,a⟩,if_pos a]
 ·rw[if_neg (fun e=>a e.2),if_neg a]
theorem D4(h1:x.kind≠1)(h2:x.kind≠2):cF rec x id s=s:=by
 unfold cF;simp only;rw[if_neg h1,if_neg (fun e=>h1 e.1),if_neg (fun e=>h2 e.1)]
end
end P19
namespace P8
open Go.RowKit Kd P4 P5
mutual
def bL:PT->Bool
 | .mk _ _ _ attrs kids=>decide (attrs.length<=20)&&DM kids
def DM:List PT->Bool
 |[]=>true
 |a:: l=>bL a&&DM l
end
theorem I5:∀l:List PT,DM l=l.all bL
 |[]=>by simp[DM]
 |a:: l=>by simp[DM,I5 l]
end P8
namespace P2
open Go.RowKit
theorem lb{a b:qA}(h:a=b):Ending.returned (bA a)= .returned (bA b):=by rw[h]
theorem BP{c k:UInt8}(h:¬c=k):((c.toNat:Int)==(k.toNat:Int))=false:=by
 simp only[beq_eq_false_iff_ne,ne_eq];intro e;exact h (UInt8.toNat_inj.1 dA)
theorem rQ(c:UInt8)(w:World):jA 208 #[.int .u8 (c.toNat:Int)] w fun e w'=>e= .returned (bA (aH c))/\w=w':=by
 by_cases a:c=38
 ·subst a;go_enter func208,ntmps208;go_wp2_with fail;go_ret;exact⟨rfl,rfl⟩
 ·by_cases b:c=60
  ·subst b;go_enter func208,ntmps208;go_wp2_with fail;go_ret;exact⟨rfl,rfl⟩
  ·by_cases d:c=62
   ·subst d;go_enter func208,ntmps208;go_wp2_with fail;go_ret;exact⟨rfl,rfl⟩
   ·by_cases f:c=34
    ·subst f;go_enter func208,ntmps208;go_wp2_with fail;go_ret;exact⟨rfl,rfl⟩
    ·have g:((c.toNat:Int)==38)=false:=BP a;have i:((c.toNat:Int)==60)=false:=BP b;have j:((c.toNat:Int)==62)=false:=BP d;have k:((c.toNat:Int)==34)=false:=BP f;go_enter func208,ntmps208;go_wp2_with fail;go_ret;exact⟨lb (by simp[aH,oO,a,b,d,f]),rfl⟩
theorem prefix_at(s p:qA)(w:World){b:Bool}(h:Lib.hasPrefix s.data.toList p.data.toList=b):jA 158 #[bA s,bA p] w fun e w'=>e= .returned (.bool b)/\w=w':=by
 rw[<-h];exact(Bd.uY s p w).mono fun e w' h=>⟨h.1,h.2.symm⟩
theorem sK{n:Int}(c:UInt8)(w:World)(h:n=(c.toNat:Int)):jA 208 #[.int .u8 n] w fun e w'=>e= .returned (bA (aH c))/\w=w':=by
 rw[h];exact rQ c w
theorem Qr{c:UInt8}(h:mG c=false):aH c=ByteArray.empty:=by
 have a:¬c=38:=(by rintro rfl;cases h);have b:¬c=60:=(by rintro rfl;cases h);have d:¬c=62:=(by rintro rfl;cases h);have e:¬c=34:=(by rintro rfl;cases h);simp[aH,oO,a,b,d,e];rfl
theorem vY(c:UInt8)(w:World)(h:mG c=false):jA 208 #[.int .u8 (c.toNat:Int)] w fun e w'=>e= .returned (bA ByteArray.empty)/\w=w':=by
 rw[<-Qr h];exact rQ c w
theorem D7{c:UInt8}(h:mG c=true):(aH c).toList.isEmpty=false:=by
 rw[ByteArray.toList_eq];rcases pQ h with rfl|rfl|rfl|rfl<;>rfl
theorem zZ{c:UInt8}(h:mG c=true):(aH c).data.toList=vF c:=by
 simp[aH,vF,h]
def JW:Nat->UInt8
 |0=>38
 |1=>60
 |2=>62
 |_=>34
def qO(l:uA)(k:Nat):Prop:=∀j,j<k->Lib.hasPrefix l (vF (JW j))=false
theorem qO.next{l:uA}{k:Nat}(h:qO l k)(hk:Lib.hasPrefix l (vF (JW k))=false):qO l (k+1):=by
 intro j a;by_cases e:j=k
 ·subst e;exact hk
 ·exact h j dA
theorem qO.none{l:uA}{c:UInt8}(h:qO l 4)(h0:l.head? = some c)(hc:mG c=true):VF l=none:=by
 cases l with
 |nil=>rfl
 |cons a r=>
  cases h0;have e0:=h 0 dA;have b:=h 1 dA;have d:=h 2 dA;have e:=h 3 dA;simp only[JW] at e0 b d e;simp[VF,hc,e0,b,d,e]
theorem MN(s:qA)(h:0<s.size):s.data.toList.head? = some s[0]:=by
 rw[List.head?_eq_getElem?,List.getElem?_eq_getElem (by simpa using h)];rfl
theorem Mn{l:uA}{c:UInt8}(h0:l.head? = some c)(hc:mG c=false):VF l=some (c,1):=by
 cases l with
 |nil=>cases h0
 |cons a r=>cases h0;simp[VF,hc]
theorem gI(s:qA)(w:World)(h:0<s.size):jA 212 #[bA s] w fun e w'=>e= .returned (.tuple #[.int .u8 (((VF s.data.toList).getD (0,0)).1.toNat:Int),aA (((VF s.data.toList).getD (0,0)).2:Int)])/\w=w':=by
 have f:=MN s h;cases hc:mG s[0]
 ·have e:=Mn f hc;rw[e];have g:=Zh hc;clear f e hc;go_enter func212,ntmps212;go_wp2_with fail;refine PA (vY _ _ g) ?_;go_wp2_with fail;go_ret2;exact⟨rfl,rfl⟩
 ·have j:=D7 hc;have l:¬(aH s[0]).toList=[]:=(by intro e;rw[e] at j;cases j);have g:=Zh hc;have m:=Zh f;clear hc f;go_enter func212,ntmps212;go_wp2_with fail;refine PA (rQ _ _) ?_;go_wp2_with fail;go_loop [4] (fun i=>∃k:Nat,k<=4/\i = aA k/\qO s.data.toList k) (fun i=>4-(intOf i).toNat)
  case atStart=>exact⟨0,by omega,rfl,fun _ h=>absurd h dA⟩
  case round=>
   obtain⟨k,o,rfl,b⟩:=hrel;have d:=Zh b;clear b;by_cases n:k<4
   ·rcases(by omega:k=0\/k=1\/k=2\/k=3) with rfl|rfl|rfl|rfl
    ·cases hp:Lib.hasPrefix s.data.toList (aH 38).data.toList
     ·have a:=Zh hp;clear hp;go_wp2_with fail;refine PA (sK 38 _ rfl) ?_;go_wp2_with fail;refine PA (prefix_at _ _ _ a) ?_;go_wp2_with fail;go_round
      case rel=>exact⟨1,by omega,rfl,d.next a⟩
      case measure=>simp[intOf]
     ·have a:=Zh hp;clear hp;go_wp2_with fail;refine PA (sK 38 _ rfl) ?_;go_wp2_with fail;refine PA (prefix_at _ _ _ a) ?_;go_wp2_with fail;go_ret2;exact⟨by rw[wO (c:=38) a.out];rfl,rfl⟩
    ·cases hp:Lib.hasPrefix s.data.toList (aH 60).data.toList
     ·have a:=Zh hp;clear hp;go_wp2_with fail;refine PA (sK 60 _ rfl) ?_;go_wp2_with fail;refine PA (prefix_at _ _ _ a) ?_;go_wp2_with fail;go_round
      case rel=>exact⟨2,by omega,rfl,d.next a⟩
      case measure=>simp[intOf]
     ·have a:=Zh hp;clear hp;go_wp2_with fail;refine PA (sK 60 _ rfl) ?_;go_wp2_with fail;refine PA (prefix_at _ _ _ a) ?_;go_wp2_with fail;go_ret2;exact⟨by rw[wO (c:=60) a.out];rfl,rfl⟩
    ·cases hp:Lib.hasPrefix s.data.toList (aH 62).data.toList
     ·have a:=Zh hp;clear hp;go_wp2_with fail;refine PA (sK 62 _ rfl) ?_;go_wp2_with fail;refine PA (prefix_at _ _ _ a) ?_;go_wp2_with fail;go_round
      case rel=>exact⟨3,by omega,rfl,d.next a⟩
      case measure=>simp[intOf]
     ·have a:=Zh hp;clear hp;go_wp2_with fail;refine PA (sK 62 _ rfl) ?_;go_wp2_with fail;refine PA (prefix_at _ _ _ a) ?_;go_wp2_with fail;go_ret2;exact⟨by rw[wO (c:=62) a.out];rfl,rfl⟩
    ·cases hp:Lib.hasPrefix s.data.toList (aH 34).data.toList
     ·have a:=Zh hp;clear hp;go_wp2_with fail;refine PA (sK 34 _ rfl) ?_;go_wp2_with fail;refine PA (prefix_at _ _ _ a) ?_;go_wp2_with fail;go_round
      case rel=>exact⟨4,by omega,rfl,d.next a⟩
      case measure=>simp[intOf]
     ·have a:=Zh hp;clear hp;go_wp2_with fail;refine PA (sK 34 _ rfl) ?_;go_wp2_with fail;refine PA (prefix_at _ _ _ a) ?_;go_wp2_with fail;go_ret2;exact⟨by rw[wO (c:=34) a.out];rfl,rfl⟩
   ·obtain rfl:k=4:=dA
    go_wp2_with fail;go_ret2;exact⟨by rw[d.out.none m.out g.out];rfl,rfl⟩
theorem CZ(s:qA):(pO s).size<=6*s.size:=by
 have:=rN s.data.toList;show(SA s.data.toList).toArray.size<=_;simpa using this
theorem bM(s:qA)(w:World)(hs:s.size<=100000):jA 178 #[bA s] w fun e w'=>e= .returned (bA (pO s))/\fA w w':=by
 go_enter func178,ntmps178;go_wp2_with fail;go_loopw [4] (fun i wr=>∃k:Nat,k<=s.size/\i = aA k/\Hid (Lib.IsBuilder 219 5 w.heap.size w.heap.size (Lib.byteCells (SA (s.data.toList.take k))) wr)/\Hid (fA w wr)) (fun i _=>s.size-(intOf i).toNat)
 case atStart=>exact⟨0,by omega,rfl,Zh (Lib.fresh_isBuilder 219 5 w),Zh (Zb _ _)⟩
 case round=>
  obtain⟨k,v,rfl,g,d⟩:=hrel;have a:w.heap.size<=wr.heap.size:=d.size;have x:(Lib.byteCells (SA (s.data.toList.take k))).length<=600000:=by
   rw[Lib.byteCells_length];have:=rN (s.data.toList.take k);have:=List.length_take_le k s.data.toList;omega
  by_cases j:k<s.size
  ·have n:=Zh (wj s k j);cases hc:mG s[k]
   ·have f:=Zh hc;clear hc;go_wp2_with fail;refine PA (vY _ _ f) ?_;go_wp2_with fail;refine(Bd.y7 w.heap.size w.heap.size _ (s[k].toNat:Int) _ g dA a).mono ?_;rintro e o ⟨rfl,b,c⟩;have l:=Zh b;have m:=Zh c;clear b c;go_wp2_with fail;go_roundw
    case rel=>exact⟨k+1,by omega,by go_num,Zh (by rw[n.out,qN f.out,Lib.byteCells_append];exact l),Zh (d.trans m)⟩
    case measure=>simp[intOf];omega
   ·have p:=D7 hc;have r:¬(aH s[k]).toList=[]:=(by intro e;rw[e] at p;cases p);have t:(aH s[k]).size<=6:=by
     have q:=(ZM s[k]).2;have b:=congrArg List.length (zZ hc);rw[<-b] at q;simpa using q
    have f:=Zh hc;clear hc;go_wp2_with fail;refine PA (rQ _ _) ?_;go_wp2_with fail;refine(Bd.xh w.heap.size w.heap.size _ (aH s[k]) _ g dA a).mono ?_;rintro e o ⟨rfl,b,c⟩;have l:=Zh b;have m:=Zh c;clear b c;go_wp2_with fail;go_roundw
    case rel=>exact⟨k+1,by omega,by go_num,Zh (by rw[n.out,Lib.byteCells_append,<-zZ f.out];exact l),Zh (d.trans m)⟩
    case measure=>simp[intOf];omega
  ·obtain rfl:k=s.size:=dA
   have e:s.data.toList.take s.size=s.data.toList:=List.take_of_length_le FA;have u:=Zh e;clear e;go_wp2_with fail;refine(Bd.dN w.heap.size w.heap.size _ _ g a).mono ?_;rintro e o ⟨rfl,c⟩;go_wp2_with fail;go_ret;exact⟨lb (by rw[u.out];rfl),d.trans c⟩
end P2
namespace P10
open Go.RowKit Kd P4 P5 P8
def KG(l:List P3.At):Bool:=decide (l.length<=100000)&&l.all (fun a=>decide (a.nm.size<=100000)&&decide (a.vl.size<=100000))
mutual
def XH:PT->Bool
 | .mk tag txt key attrs kids=>decide (tag.size<=100000)&&decide (txt.size<=100000)&&decide (key.size<=100000)&&KG attrs&&decide (kids.length<=100000)&&jD kids
def jD:List PT->Bool
 |[]=>true
 |a:: l=>XH a&&jD l
end
theorem kP:∀l:List PT,jD l=l.all XH
 |[]=>by simp[jD]
 |a:: l=>by simp[jD,kP l]
theorem BV{l:List PT}{k:Nat}(h:k<l.length)(h1:jD l=true):XH l[k]=true:=by
 rw[kP,List.all_eq_true] at h1;exact h1 _ (List.getElem_mem h)
theorem Ac{l:List P3.At}(h:KG l=true){k:Nat}(hk:k<l.length):l[k].nm.size<=100000/\l[k].vl.size<=100000:=by
 unfold KG at h;rw[Bool.and_eq_true,List.all_eq_true] at h;have:=h.2 _ (List.getElem_mem hk);simpa using this
theorem Qa{l:List P3.At}(h:KG l=true):l.length<=100000:=by
 unfold KG at h;rw[Bool.and_eq_true] at h;simpa using h.1
theorem Uv{l:List P3.At}(h:KG l=true):P3.Wf l/\l.length<=100000:=by
 refine⟨fun a b=>?_,Qa h⟩;obtain⟨k,c,rfl⟩:=List.mem_iff_getElem.1 b;have:=Ac h c;unfold maxLen;omega
end P10
namespace P13
open Go.RowKit Kd P4 P5 P11 P12
end P13
namespace P19
open P5 P6 P14 P16
def nI(l:List Nd)(y:Int):qA:=match find l y with
 |some x=>x.key
 |none=>⟨#[]⟩
structure Tg(d d':D):Prop where
 n:d.n<=d'.n
 room:d'.R=d.R
 tag:∀y,y<=d.n->nA d'.l y=true->nA d.l y=true/\RA d'.l y=RA d.l y/\nI d'.l y=nI d.l y
theorem Tg.refl(d:D):Tg d d:=⟨Int.le_refl _,rfl,fun _ _ h=>⟨h,rfl,rfl⟩⟩
theorem Tg.trans{d d' d2:D}(h:Tg d d')(k:Tg d' d2):Tg d d2:=⟨Int.le_trans h.n k.n,k.room.trans h.room,fun y a b=>by
 obtain⟨c,e,f⟩:=k.tag y (Int.le_trans a h.n) b;obtain⟨g,i,j⟩:=h.tag y a c;exact⟨g,e.trans i,f.trans j⟩⟩
theorem BN{l:List Nd}{i:Int}{f:Nd->Nd}(h1:∀x,(f x).id=x.id)(h2:∀x,(f x).tag=x.tag)(h3:∀x,(f x).key=x.key)(y:Int):RA (mB l i f) y=RA l y/\nI (mB l i f) y=nI l y:=by
 unfold RA nI;rw[bJ l i f h1];cases find l y with
 |none=>exact⟨rfl,rfl⟩
 |some x=>
  simp only[Option.map_some];by_cases e:x.id=i
  ·rw[if_pos e];exact⟨h2 x,h3 x⟩
  ·rw[if_neg e];exact⟨rfl,rfl⟩
theorem fU(l:List Nd)(i y:Int):RA (UA l i) y=RA l y/\nI (UA l i) y=nI l y:=by
 unfold UA;split
 ·exact⟨rfl,rfl⟩
 ·obtain⟨a,b⟩:=BN (l:=mB l (EA l i) (YC (less i))) (i:=i) (f:=VD 0) (fun _=>rfl) (fun _=>rfl) (fun _=>rfl) y;obtain⟨c,d⟩:=BN (l:=l) (i:=EA l i) (f:=YC (less i)) (fun _=>rfl) (fun _=>rfl) (fun _=>rfl) y;exact⟨a.trans c,b.trans d⟩
theorem tc{d:D}{i:Int}{f:Nd->Nd}(h1:∀x,(f x).id=x.id)(h2:∀x,(f x).tag=x.tag)(h3:∀x,(f x).key=x.key):Tg d {d with l:=mB d.l i f}:=
 ⟨Int.le_refl _,rfl,fun y _ a=>⟨by rw[<-xN d.l i f h1 y];exact a,BN h1 h2 h3 y⟩⟩
theorem zK{d:D}(hw:WF d)(r:Rc):Tg d (YA d r).2:=by
 unfold YA;split
 ·unfold rE;split
  ·exact Tg.refl d
  split
  ·exact Tg.refl d
  ·rename_i b e;simp only[ne_eq,not_or,Classical.not_not] at b;refine⟨by show d.n<=d.n+1;omega,rfl,fun y s a=>?_⟩;have g:nA d.l (IB r.id r.tag r.txt r.key).id=false:=by
    show nA d.l r.id=false;rw[b.1];exact hw.next
   have j:y≠(IB r.id r.tag r.txt r.key).id:=by
    show y≠r.id;rw[b.1];omega
   have c:find (d.l++[IB r.id r.tag r.txt r.key]) y=find d.l y:=(by rw[gN g,if_neg j]);refine⟨?_,?_,?_⟩
   ·have:nA (d.l++[IB r.id r.tag r.txt r.key]) y=true:=a;unfold nA at this|-;rwa[c] at this
   ·show RA (d.l++[IB r.id r.tag r.txt r.key]) y=_;unfold RA;rw[c]
   ·show nI (d.l++[IB r.id r.tag r.txt r.key]) y=_;unfold nI;rw[c]
 split
 ·unfold YD;split
  ·refine⟨Int.le_refl _,rfl,fun y _ a=>⟨by rw[<-UU y];exact a,?_⟩⟩;show RA (SA d.l r.id r.par r.ZA) y=_/\nI (SA d.l r.id r.par r.ZA) y=_;unfold SA;obtain⟨m,n⟩:=BN (l:=mB (UA d.l r.id) r.par (YC (RG r.id r.ZA))) (i:=r.id) (f:=VD r.par) (fun _=>rfl) (fun _=>rfl) (fun _=>rfl) y;obtain⟨o,p⟩:=BN (l:=UA d.l r.id) (i:=r.par) (f:=YC (RG r.id r.ZA)) (fun _=>rfl) (fun _=>rfl) (fun _=>rfl) y;obtain⟨b,e⟩:=fU d.l r.id y;exact⟨(m.trans o).trans b,(n.trans p).trans e⟩
  ·exact Tg.refl d
 split
 ·unfold uF;split
  ·exact Tg.refl d
  split
  ·exact Tg.refl d
  ·refine⟨Int.le_refl _,rfl,fun y _ a=>?_⟩;have a:nA (ED d.l r.id) y=true:=a;unfold ED at a;obtain⟨k,q⟩:=(fP _ _ _).1 a;rw[qH] at k;obtain⟨b,e⟩:=fU d.l r.id y;have c:find (ED d.l r.id) y=find (UA d.l r.id) y:=(by unfold ED;rw[BI,if_neg q]);refine⟨k,?_,?_⟩
   ·rw[<-b];show RA (ED d.l r.id) y=_;unfold RA;rw[c]
   ·rw[<-e];show nI (ED d.l r.id) y=_;unfold nI;rw[c]
 split
 ·unfold XD;split
  ·exact Tg.refl d
  split
  ·exact Tg.refl d
  split
  ·exact Tg.refl d
  ·exact tc (fun _=>rfl) (fun _=>rfl) (fun _=>rfl)
 split
 ·unfold nF;split
  ·exact Tg.refl d
  split
  ·exact Tg.refl d
  split
  ·exact Tg.refl d
  ·exact tc (fun _=>rfl) (fun _=>rfl) (fun _=>rfl)
 ·exact Tg.refl d
theorem bZ(d:D)(r:Rc):(YA d r).2.l.length<=d.l.length+(if r.op=1 then 1 else 0):=by
 unfold YA;split
 ·unfold rE;split
  ·simp
  split
  ·simp
  ·simp
 split
 ·unfold YD;split
  ·show(SA d.l r.id r.par r.ZA).length<=_;rw[GK (VU (l:=d.l))];omega
  ·simp
 split
 ·unfold uF;split
  ·simp
  split
  ·simp
  ·show(ED d.l r.id).length<=_;have a:(ED d.l r.id).length<=(UA d.l r.id).length:=List.length_filter_le _ _;have b:=GK (xL d.l r.id);omega
 split
 ·unfold XD;split
  ·simp
  split
  ·simp
  split
  ·simp
  ·show(mB d.l r.id (pH r.attrs)).length<=_;rw[GK (cP d.l r.id (pH r.attrs) (fun _=>rfl))];omega
 split
 ·unfold nF;split
  ·simp
  split
  ·simp
  split
  ·simp
  ·show(mB d.l r.id (UJ r.txt)).length<=_;rw[GK (cP d.l r.id (UJ r.txt) (fun _=>rfl))];omega
 ·simp
def vD(s:Sg)(r:Rc):Prop:=(YA s.1 r).1=0
theorem aV{s:Sg}{i p b:Int}(h:SI s.1.l i p b):vD s (LB i p b):=by
 unfold vD;have c:fE s.1.l i p b=0:=by
  unfold fE;rw[if_neg,if_neg h.h1,if_neg (by rw[h.hk];decide),if_neg,if_neg (by rw[h.hn];decide)]
  ·rintro⟨d,f⟩;rcases h.hb with e|⟨_,a,e3⟩
   ·exact d e
   ·rcases f with e|e
    ·exact e a
    ·exact e3 e
  ·rintro(e|e|⟨g,a⟩)
   ·rw[h.hi] at e;cases e
   ·rw[h.hp] at e;cases e
   ·rcases h.hb with e|⟨e3,_⟩
    ·exact g e
    ·rw[e3] at a;cases a
 show(YA s.1 (LB i p b)).1=0;unfold YA;rw[if_neg (show¬(LB i p b).op=1 from(by decide:¬(2:Int)=1)),if_pos (show(LB i p b).op=2 from rfl)];unfold YD;rw[if_pos (show fE s.1.l (LB i p b).id (LB i p b).par (LB i p b).ZA=0 from c)]
theorem im{s:Sg}{i:Int}(h:nA s.1.l i=true)(h1:i≠1):vD s (ZC i):=by
 unfold vD YA;rw[if_neg (show¬(ZC i).op=1 from(by decide:¬(3:Int)=1)),if_neg (show¬(ZC i).op=2 from(by decide:¬(3:Int)=2)),if_pos (show(ZC i).op=3 from rfl)];unfold uF;rw[if_neg (show¬nA s.1.l (ZC i).id=false by show¬nA s.1.l i=false;rw[h];decide),if_neg (show¬(ZC i).id=1 from h1)]
theorem I4{s:Sg}{i:Int}{a:List P3.At}(h:nA s.1.l i=true)(ht:(RA s.1.l i).toList≠[])(ha:P3.kC a=true):vD s (MC i a):=by
 unfold vD YA;rw[if_neg (show¬(MC i a).op=1 from(by decide:¬(4:Int)=1)),if_neg (show¬(MC i a).op=2 from(by decide:¬(4:Int)=2)),if_neg (show¬(MC i a).op=3 from(by decide:¬(4:Int)=3)),if_pos (show(MC i a).op=4 from rfl)];unfold XD;rw[if_neg (show¬nA s.1.l (MC i a).id=false by show¬nA s.1.l i=false;rw[h];decide),if_neg (show¬(RA s.1.l (MC i a).id).toList=[] from ht),if_neg (show¬P3.kC (MC i a).attrs=false by show¬P3.kC a=false;rw[ha];decide)]
theorem jm{s:Sg}{i:Int}{t:qA}(h:nA s.1.l i=true)(ht:(RA s.1.l i).toList=[])(ha:P1.yC t.data.toList=true):vD s (AE i t):=by
 unfold vD YA;rw[if_neg (show¬(AE i t).op=1 from(by decide:¬(5:Int)=1)),if_neg (show¬(AE i t).op=2 from(by decide:¬(5:Int)=2)),if_neg (show¬(AE i t).op=3 from(by decide:¬(5:Int)=3)),if_neg (show¬(AE i t).op=4 from(by decide:¬(5:Int)=4)),if_pos (show(AE i t).op=5 from rfl)];unfold nF;rw[if_neg (show¬nA s.1.l (AE i t).id=false by show¬nA s.1.l i=false;rw[h];decide),if_neg (show¬(RA s.1.l (AE i t).id).toList≠[] from fun e=>e ht),if_neg (show¬P1.yC (AE i t).txt.data.toList=false by show¬P1.yC t.data.toList=false;rw[ha];decide)]
theorem km{s:Sg}{tag txt key:qA}(hm:xC tag txt key=true)(hr:s.1.l.length<s.1.R):vD s (sB (s.1.n+1) tag txt key):=by
 unfold vD YA;rw[if_pos (show(sB (s.1.n+1) tag txt key).op=1 from rfl)];unfold rE;rw[if_neg (show¬((sB (s.1.n+1) tag txt key).id≠s.1.n+1\/xC (sB (s.1.n+1) tag txt key).tag (sB (s.1.n+1) tag txt key).txt (sB (s.1.n+1) tag txt key).key=false) from ?_),if_neg (show¬s.1.R<=s.1.l.length by omega)];rintro(e|e)
 ·exact e rfl
 ·have:xC tag txt key=false:=e;rw[hm] at this;cases this
theorem Ie{d:D}(hw:WF d){i p:Int}(hi:i≠0)(hp:EA d.l i=p):inside d.l p i=false:=by
 unfold inside;rw[decide_eq_false_iff_not];intro a;obtain⟨j,b,_⟩:=ZN _ _ _ a;refine hw.tr.IL (x:=i) (j:=j) hi ?_;show it (EA d.l) j (EA d.l i)=i;rw[hp];exact b
theorem Be{d:D}(hw:WF d){i p:Int}(hi:nA d.l i=true)(hk:xA d.l i=[])(hne:p≠i):inside d.l p i=false:=by
 unfold inside;rw[decide_eq_false_iff_not];intro b;obtain⟨j,a,_⟩:=ZN _ _ _ b;cases j with
 |zero=>exact hne a
 |succ j=>
  rw[OF] at a;have c:EA d.l (it (EA d.l) j p)≠0:=(by rw[a];exact hw.tr.jG hi);have:=hw.tr.par _ c;rw[a,hk] at this;cases this
def NK(par b:Int):List Int->Sg->Prop
 |[],_=>True
 |i:: l,s=>vD s (LB i par b)/\NK par b l (LA s (LB i par b))
def gJ:List Int->Sg->Prop
 |[],_=>True
 |i:: l,s=>vD s (ZC i)/\gJ l (LA s (ZC i))
def YJ(s:Sg)(par:Int)(left:List Int)(beh id:Int)(k:Nat):Prop:=
 k≠0->(inside s.1.l s.1.nB id=false->vD s (LB id par (vB left 0)))/\(inside s.1.l s.1.nB id=true->NK par (vB (left.drop (k+1)) beh) (left.take k) s)
abbrev nO:=Sg->Int->List Int->List PW->Prop
def NH(recOk:nO)(x:PW)(id:Int)(s:Sg):Prop:=
 (x.kind=2->(sC s.1.l id).txt.toList≠x.txt.toList->vD s (AE id x.txt))/\
 (x.kind=1->(P3.IE (P3.lD (sC s.1.l id).attrs x.attrs) (sC s.1.l id).attrs=false->vD s (MC id (P3.lD (sC s.1.l id).attrs x.attrs)))/\recOk (qG x id s) id (xA (qG x id s).1.l id) x.kids)
def tJ(recOk:nO)(par b:Int)(x:PW)(s:Sg):Prop:=
 vD s (sB (s.1.n+1) x.tag x.txt x.key)/\vD (LA s (sB (s.1.n+1) x.tag x.txt x.key)) (LB (s.1.n+1) par b)/\
 (P3.TC x.attrs≠[]->vD (GF par b x s) (MC (s.1.n+1) (P3.TC x.attrs)))/\(x.kind=1->recOk (XF par b x s) (s.1.n+1) (xA (XF par b x s).1.l (s.1.n+1)) x.kids)
def xV(recOk:nO)(rec:Rec)(par beh:Int)(ids:List Int)(x:PW)(t:Int)(p:Sg×List Int):Prop:=
 x.kind≠4->(0<=t->YJ p.1 par p.2 beh (ids.getD t.toNat 0) (p.2.idxOf (ids.getD t.toNat 0))/\(x.kind≠3->NH recOk x (ids.getD t.toNat 0) (aD p.1 par p.2 beh (ids.getD t.toNat 0) (p.2.idxOf (ids.getD t.toNat 0))).1))/\
  (¬0<=t->x.kind≠3->tJ recOk par (vB p.2 beh) x p.1)
def cG:Nat->Sg->Int->List Int->Int->List PW->Prop
 |0,_,_,_,_,_=>True
 |f+1,s,par,ids,beh,want=>
  (∀i (h:i<want.length),xV (fun s i ks w=>cG f s i ks 0 w) (fun s i ks w=>uB f s i ks 0 w) par beh ids want[i] ((foldM (ids.map (QB s.1.l)) want).take[i]'(by rw[take_len];exact h)) (oC (fun s i ks w=>uB f s i ks 0 w) par beh ids (ids.map (QB s.1.l)) want s i))/\
  gJ (oC (fun s i ks w=>uB f s i ks 0 w) par beh ids (ids.map (QB s.1.l)) want s want.length).2 (oC (fun s i ks w=>uB f s i ks 0 w) par beh ids (ids.map (QB s.1.l)) want s want.length).1
end P19
namespace P19
open P5 P6 P11 P12 P14 P16
inductive DH:PW->Prop
 |mk {kind:Int} {tag key txt:qA} {attrs:List P3.At} {kids:List PW} (ha:P3.kC attrs=true) (hk:∀k∈kids,DH k):DH (.mk kind tag key txt attrs kids)
theorem DH.mC{x:PW}(h:DH x):P3.kC x.attrs=true:=by cases h;assumption
theorem DH.ks{x:PW}(h:DH x):∀k∈x.kids,DH k:=by cases h;assumption
def NP(rec:Rec):Prop:=∀s i ks w,(∀x∈w,tC x)->(rec s i ks w).1.l.length<=s.1.l.length+xB w
section
variable{rec:Rec}{s:Sg}{par beh:Int}{ids:List Int}{want:List PW}{old:List Ol}
theorem aM(s:Sg){r:Rc}(h:r.op≠1):(LA s r).1.l.length<=s.1.l.length:=by
 have:=bZ s.1 r;rw[if_neg h] at this;exact this
theorem om(s:Sg)(r:Rc):(LA s r).1.l.length<=s.1.l.length+1:=by
 have:=bZ s.1 r;have a:(LA s r).1.l.length=(YA s.1 r).2.l.length:=rfl;split at this<;>omega
theorem cZ(par b:Int):∀(l:List Int) (s:Sg),(VE par b l s).1.l.length<=s.1.l.length
 |[],s=>Zl
 |i:: l,s=>Nat.le_trans (cZ par b l (LA s (LB i par b))) (aM s (show(2:Int)≠1 by decide))
theorem fY:∀(l:List Int) (s:Sg),(cC l s).1.l.length<=s.1.l.length
 |[],s=>Zl
 |i:: l,s=>Nat.le_trans (fY l (LA s (ZC i))) (aM s (show(3:Int)≠1 by decide))
theorem dZ(s:Sg)(par:Int)(left:List Int)(beh id:Int)(k:Nat):(aD s par left beh id k).1.1.l.length<=s.1.l.length:=by
 unfold aD;simp only;split
 ·exact Zl
 split
 ·exact aM s (show(2:Int)≠1 by decide)
 ·exact cZ _ _ _ _
theorem uP{x:PW}(h:x.kind=1):pG x=1+xB x.kids:=by
 cases x with
 |mk kind tag key txt attrs kids=>
  have h:kind=1:=h;rw[pG,if_neg dA,if_pos h];rfl
theorem uc{x:PW}(h:x.kind=2):pG x=1:=by
 cases x with
 |mk kind tag key txt attrs kids=>
  have h:kind=2:=h;rw[pG,if_pos h]
theorem SL{x:PW}(h:tC x):∀k∈x.kids,tC k:=by
 cases h with
 |el _ _ hk=>exact hk
 |vo=>exact fun _ h=>by cases h
 |tx=>exact fun _ h=>by cases h
 |nd=>exact fun _ h=>by cases h
 |al=>exact fun _ h=>by cases h
theorem zU{x:PW}(h:tC x):x.kind=1\/x.kind=2\/x.kind=3\/x.kind=4:=by
 cases h with
 |el=>exact .inl rfl
 |vo=>exact .inl rfl
 |tx=>exact .inr (.inl rfl)
 |nd=>exact .inr (.inr (.inl rfl))
 |al=>exact .inr (.inr (.inr rfl))
theorem eZ(x:PW)(id:Int)(s:Sg):(qG x id s).1.l.length<=s.1.l.length:=by
 unfold qG;split
 ·exact aM s (show(4:Int)≠1 by decide)
 ·exact Zl
theorem Og(R:NP rec){x:PW}(hw:tC x)(id:Int)(s:Sg):(cF rec x id s).1.l.length<=s.1.l.length+pG x:=by
 by_cases a:x.kind=1
 ·rw[JT a,uP a];have:=R (qG x id s) id (xA (qG x id s).1.l id) x.kids (SL hw);have:=eZ x id s;omega
 by_cases b:x.kind=2
 ·rw[eY b];split
  ·have:=aM s (r:=AE id x.txt) (show(5:Int)≠1 by decide);omega
  ·omega
 ·rw[D4 a b];omega
theorem fZ(par b:Int)(x:PW)(s:Sg):(XF par b x s).1.l.length<=s.1.l.length+1:=by
 have a:(GF par b x s).1.l.length<=s.1.l.length+1:=Nat.le_trans (aM _ (show(2:Int)≠1 by decide)) (om s _);unfold XF;split
 ·exact a
 ·exact Nat.le_trans (aM _ (show(4:Int)≠1 by decide)) a
theorem qm(R:NP rec){x:PW}(hw:tC x)(h4:x.kind≠4)(h3:x.kind≠3)(par b:Int)(s:Sg):(oF rec par b x s).1.l.length<=s.1.l.length+pG x:=by
 have h:=fZ par b x s;rcases zU hw with h1|h1|h1|h1
 ·rw[ZU h1,uP h1];have:=R (XF par b x s) (s.1.n+1) (xA (XF par b x s).1.l (s.1.n+1)) x.kids (SL hw);omega
 ·rw[WN dA,uc h1];exact h
 ·exact absurd h1 h3
 ·exact absurd h1 h4
theorem Ti(R:NP rec){x:PW}(hw:tC x)(t:Int)(p:Sg×List Int):(eF rec par beh ids x t p).1.1.l.length<=p.1.1.l.length+pG x:=by
 unfold eF;split
 ·exact Nat.le_add_right _ _
 rename_i h4;split
 ·simp only;have a:=dZ p.1 par p.2 beh (ids.getD t.toNat 0) (p.2.idxOf (ids.getD t.toNat 0));split
  ·omega
  ·have:=Og R hw (ids.getD t.toNat 0) (aD p.1 par p.2 beh (ids.getD t.toNat 0) (p.2.idxOf (ids.getD t.toNat 0))).1;simp only;omega
 split
 ·exact Nat.le_add_right _ _
 ·rename_i h3;exact qm R hw h4 h3 par _ p.1
theorem dU{l:List PW}{i:Nat}(hi:i<l.length):xB (l.take (i+1))=xB (l.take i)+pG l[i]:=by
 have c:∀a b:List PW,xB (a++b)=xB a+xB b:=by
  intro a b
  induction a with
  |nil=>simp[xB]
  |cons x r ih=>rw[List.cons_append,xB,xB,ih];omega
 rw[List.take_succ_eq_append_getElem hi,c];simp[xB]
theorem L4:∀{l:List PW} {i:Nat} (hi:i<l.length),xB (l.take i)+pG l[i]<=xB l
 |[],i,hi=>by simp at hi
 |x:: r,0,_=>by rw[List.take_zero,xB,xB,List.getElem_cons_zero];omega
 |x:: r,i+1,hi=>by
  have:=L4 (l:=r) (i:=i) (by simpa using hi);rw[List.take_succ_cons,xB,xB,List.getElem_cons_succ];omega
theorem bV(R:NP rec)(hw:∀x∈want,tC x):∀i,i<=want.length->(oC rec par beh ids old want s i).1.1.l.length<=s.1.l.length+xB (want.take i)
 |0,_=>by
  show s.1.l.length<=_;omega
 |i+1,hi=>by
  have ih:=bV R hw i dA;have hi':i<want.length:=dA;rw[xK hi',dU hi'];have:=Ti (par:=par) (beh:=beh) (ids:=ids) R (hw _ (List.getElem_mem hi')) ((foldM old want).take[i]'(by rw[take_len];exact hi')) (oC rec par beh ids old want s i);omega
theorem Q4:∀f:Nat,NP (fun s i ks w=>uB f s i ks 0 w)
 |0=>fun s i ks w _=>by
  show s.1.l.length<=_;omega
 |f+1=>fun s i ks w hw=>by
  show(uB (f+1) s i ks 0 w).1.l.length<=_;rw[KJ];have h1:=bV (par:=i) (beh:=0) (ids:=ks) (old:=ks.map (QB s.1.l)) (s:=s) (Q4 f) hw w.length Zl;rw[List.take_length] at h1;exact Nat.le_trans (fY _ _) h1
end
structure Jn(s0:Sg)(par:Int)(ids:List Int)(s:Sg):Prop where
 lv:Lv s0 par ids s
 tg:Tg s0.1 s.1
 may:vJ s.1
structure J0(s0:Sg)(par:Int):Prop where
 wf:WF s0.1
 p0:par≠0
 hp:nA s0.1.l par=true
section
variable{s0 s:Sg}{par:Int}{ids:List Int}
theorem Jn.here(b:J0 s0 par)(h:Jn s0 par ids s):nA s.1.l par=true/\RA s.1.l par=RA s0.1.l par:=by
 have a:=(h.lv.st par b.hp (Bq b.wf b.p0)).1;exact⟨a,(h.tg.tag par (b.wf.pos b.hp).2 a).2.1⟩
theorem Jn.Pd(b:J0 s0 par)(h:Jn s0 par ids s){a:Int}(ha:a∈ids):a≠1:=fun e=>by
 have:=(h.lv.aB a ha).2;rw[e,h.lv.wf.pM] at this;exact b.p0 this.symm
theorem Jn.ed(b:J0 s0 par)(hk:qC (RA s0.1.l par)=false)(h:Jn s0 par ids s){a c:Int}(ha:a∈ids)(hc:c=0\/c∈ids/\c≠a):SI s.1.l a par c:=by
 obtain⟨f,g⟩:=h.here b;obtain⟨d,i⟩:=h.lv.aB a ha;refine⟨d,f,?_,Ie h.lv.wf (h.lv.wf.tr.jG d) i,h.Pd b ha,by rw[g];exact hk⟩;rcases hc with e|⟨e,hne⟩
 ·exact .inl e
 ·exact .inr ⟨(h.lv.aB c e).1,(h.lv.aB c e).2,hne⟩
theorem Jn.xx(h:Jn s0 par ids s){r:Rc}(hl:Lv s0 par ids (LA s r)):Jn s0 par ids (LA s r):=⟨hl,h.tg.trans (zK h.lv.wf r),uH MK h.may r⟩
theorem Jn.put(b:J0 s0 par)(h:Jn s0 par ids s){a:Int}(ha:a∈ids)(c:Int):Jn s0 par ids (LA s (LB a par c)):=h.xx (h.lv.put b.wf (h.lv.aB a ha).2 c)
theorem Jn.tag(b:J0 s0 par)(h:Jn s0 par ids s){a:Int}(ha:a∈ids)(hs:nA s0.1.l a=true):RA s.1.l a=RA s0.1.l a:=(h.tg.tag a (b.wf.pos hs).2 (h.lv.aB a ha).1).2.1
theorem AU(b:J0 s0 par)(hk:qC (RA s0.1.l par)=false){c:Int}:∀(l:List Int) {s:Sg},Jn s0 par ids s->(∀a∈l,a∈ids/\(c=0\/c∈ids/\c≠a))->NK par c l s/\Jn s0 par ids (VE par c l s)
 |[],s,h,_=>⟨trivial,h⟩
 |a:: l,s,h,hl=>by
  obtain⟨h1,h2⟩:=hl a FA;obtain⟨h3,h4⟩:=AU b hk l (h.put b h1 c) (fun x hx=>hl x (by simp[hx]));exact⟨⟨aV (h.ed b hk h1 h2),h3⟩,h4⟩
theorem rm(b:J0 s0 par)(hk:qC (RA s0.1.l par)=false)(h:Jn s0 par ids s){left:List Int}{beh a:Int}(hl:∀i∈left,i∈ids)(hd:left.Nodup)(ha:a∈left)(hb:beh=0\/beh∈ids/\beh∉left):
 YJ s par left beh a (left.idxOf a)/\Jn s0 par ids (aD s par left beh a (left.idxOf a)).1:=by
 have g:=List.idxOf_lt_length_iff.2 ha;have l:left[left.idxOf a]=a:=List.getElem_idxOf g;have d:∀x∈left.take (left.idxOf a),x∈ids/\(vB (left.drop (left.idxOf a+1)) beh=0\/vB (left.drop (left.idxOf a+1)) beh∈ids/\vB (left.drop (left.idxOf a+1)) beh≠x):=fun x hx=>by
  refine⟨hl x (List.mem_of_mem_take hx),?_⟩;cases hdr:left.drop (left.idxOf a+1) with
  |nil=>
   show beh=0\/beh∈ids/\beh≠x;rcases hb with e|⟨e1,e2⟩
   ·exact .inl e
   ·exact .inr ⟨e1,fun e=>e2 (e▸List.mem_of_mem_take hx)⟩
  |cons c r=>
   show c=0\/c∈ids/\c≠x;have k:c∈left.drop (left.idxOf a+1):=(by rw[hdr];simp);refine .inr ⟨hl c (List.mem_of_mem_drop k),fun e=>?_⟩;have m:(left.take (left.idxOf a+1)++left.drop (left.idxOf a+1)).Nodup:=(by rw[List.take_append_drop];exact hd);exact(List.nodup_append.1 m).2.2 x ((List.take_subset_take_left left dA) hx) c k e.symm
 have f:left.idxOf a≠0->vB left 0=0\/vB left 0∈ids/\vB left 0≠a:=fun j=>by
  cases left with
  |nil=>cases ha
  |cons c r=>
   refine .inr ⟨hl c FA,fun e=>j ?_⟩;have e:c=a:=e;rw[e];simp
 refine⟨fun j=>⟨fun _=>aV (h.ed b hk (hl a ha) (f j)),fun _=>(AU b hk _ h d).1⟩,?_⟩;unfold aD;simp only;split
 ·exact h
 split
 ·exact h.put b (hl a ha) _
 ·exact(AU b hk _ h d).2
theorem KO(b:J0 s0 par):∀(l:List Int) {ids:List Int} {s:Sg},Jn s0 par ids s->(∀i∈l,i∈ids)->l.Nodup->gJ l s
 |[],_,_,_,_,_=>trivial
 |i:: l,ids,s,h,hl,hd=>by
  obtain⟨hd1,hd2⟩:=List.nodup_cons.1 hd;have hi:=h.lv.aB i (hl i FA);have h2:Jn s0 par l (LA s (ZC i)):=by
   refine⟨⟨qE h.lv.wf _,h.lv.st.trans b.wf h.lv.wf (cY h.lv.wf hi.2),fun j hj=>?_⟩,h.tg.trans (zK h.lv.wf _),uH MK h.may _⟩;have hj2:=h.lv.aB j (hl j (by simp[hj]));have hne:j≠i:=fun e=>hd1 (e▸hj)
   obtain⟨a1,a2⟩:=IT h.lv.wf hj2.1 hne (vV h.lv.wf b.p0 hi.2 hj2.2);exact⟨a1,a2.trans hj2.2⟩
  exact⟨im hi.1 (h.Pd b (hl i FA)),KO b l h2 (fun j hj=>hj) hd2⟩
end
structure gK(s:Sg)(par:Int)(ids:List Int)(beh:Int)(want:List PW):Prop where
 wf:WF s.1
 may:vJ s.1
 p0:par≠0
 hp:nA s.1.l par=true
 el:want=[]\/qC (RA s.1.l par)=false
 kids:Kids s par ids
 AD:ids.Nodup
 beh:beh=0\/(nA s.1.l beh=true/\EA s.1.l beh=par/\beh∉ids)
 BJ:∀x∈want,tC x
 gd:∀x∈want,DH x
 room:s.1.l.length+xB want<=s.1.R
theorem gK.j0{s:Sg}{par beh:Int}{ids:List Int}{want:List PW}(h:gK s par ids beh want):J0 s par:=⟨h.wf,h.p0,h.hp⟩
def zM(ids:List Int)(beh:Int):List Int:=if beh=0 then ids else beh:: ids
theorem UL(ids:List Int)(beh:Int):∀i∈ids,i∈zM ids beh:=fun i a=>by
 unfold zM;split
 ·exact a
 ·exact List.mem_cons_of_mem _ a
theorem gK.jn{s:Sg}{par beh:Int}{ids:List Int}{want:List PW}(h:gK s par ids beh want):Jn s par (zM ids beh) s:=by
 refine⟨⟨h.wf,XE.refl _ _,fun i a=>?_⟩,Tg.refl _,h.may⟩;unfold zM at a;split at a
 ·exact h.kids i a
 ·rename_i hb;rcases List.mem_cons.1 a with rfl|a
  ·rcases h.beh with e|⟨e1,e2,_⟩
   ·exact absurd e hb
   ·exact⟨e1,e2⟩
  ·exact h.kids i a
theorem dR{x:PW}(h:tC x)(h1:x.kind=1):x.tag.toList≠[]/\xC x.tag x.txt x.key=true/\(x.kids=[]\/qC x.tag=false):=by
 have c:∀{a:qA},P1.JC a.data.toList=true->a.toList≠[]:=fun {a} h e=>by
  rw[ByteArray.toList_eq] at e;rw[e] at h;cases h
 have d:∀{l:uA},P1.dC l=true->P1.JC l=true:=fun {l} h=>by
  unfold P1.dC at h;simp only[Bool.or_eq_true,beq_iff_eq] at h;rcases h with((h|h)|h)|h<;>rw[h]<;>decide
 have z:(z0:qA).toList=[]:=ByteArray.toList_eq _;have f:∀{a b:qA},P1.JC a.data.toList=true->P1.yC b.data.toList=true->xC a z0 b=true:=fun {a b} h1 h2=>by
  unfold xC;rw[if_neg (c h1),h1,h2,z];rfl
 cases h with
 |@el tag key attrs kids hm _ _=>
  have g:=PL hm;simp only[UB,if_true,Bool.and_eq_true,Bool.not_eq_true'] at hm;refine⟨c hm.1.1,f hm.1.1 hm.2,.inr ?_⟩;show qC tag=false;unfold qC;rw[g,decide_eq_false (c hm.1.1)];rfl
 |@vo tag key attrs hm _=>
  have e:UB ⟨3,tag,key⟩=(P1.dC tag.data.toList&&P1.yC key.data.toList):=(by simp[UB]);rw[e,Bool.and_eq_true] at hm;exact⟨c (d hm.1),f (d hm.1) hm.2,.inl rfl⟩
 |tx=>exact absurd h1 (by show¬(2:Int)=1;decide)
 |nd=>exact absurd h1 pA
 |al=>exact absurd h1 pA
theorem eR{x:PW}(h:tC x)(h2:x.kind=2):P1.yC x.txt.data.toList=true/\xC x.tag x.txt x.key=true/\x.attrs=[]:=by
 have z:(z0:qA).toList=[]:=ByteArray.toList_eq _;cases h with
 |@tx t hm=>
  have e:UB ⟨4,t,z0⟩=(P1.yC t.data.toList&&(z0:qA).toList.isEmpty):=(by simp[UB]);rw[e,Bool.and_eq_true] at hm;refine⟨hm.1,?_,rfl⟩;show xC z0 t z0=true;unfold xC;rw[if_pos z,hm.1,z];rfl
 |el=>exact absurd h2 (by show¬(1:Int)=2;decide)
 |vo=>exact absurd h2 (by show¬(1:Int)=2;decide)
 |nd=>exact absurd h2 pA
 |al=>exact absurd h2 pA
theorem T4{s3:Sg}{id:Int}{x:PW}(hw:WF s3.1)(hm:vJ s3.1)(hh:nA s3.1.l id=true)(ht:RA s3.1.l id=x.tag\/(RA s3.1.l id).toList=x.tag.toList)(hx:tC x)(hg:DH x)(h1:x.kind=1)(hr:s3.1.l.length+xB x.kids<=s3.1.R):gK s3 id (xA s3.1.l id) 0 x.kids:=by
 obtain⟨b,c⟩:=fJ hw id;refine⟨hw,hm,hw.tr.jG hh,hh,?_,b,c,.inl rfl,SL hx,hg.ks,hr⟩;rcases(dR hx h1).2.2 with e|e
 ·exact .inl e
 ·refine .inr ?_;have a:(RA s3.1.l id).toList=x.tag.toList:=by
   rcases ht with h|h
   ·rw[h]
   ·exact h
  have d:(RA s3.1.l id).data.toList=x.tag.data.toList:=(by rw[<-ByteArray.toList_eq,<-ByteArray.toList_eq];exact a);unfold qC at e|-;rw[a,d];exact e
theorem Lq{recOk:nO}{s0 s:Sg}{par b:Int}{ids:List Int}{x:PW}(j0:J0 s0 par)(hk:qC (RA s0.1.l par)=false)(h:Jn s0 par ids s)(hx:tC x)(hg:DH x)(h4:x.kind≠4)(h3:x.kind≠3)(hb:b=0\/b∈ids)(hr:s.1.l.length+pG x<=s.1.R)
 (hrec:∀s3 id,gK s3 id (xA s3.1.l id) 0 x.kids->recOk s3 id (xA s3.1.l id) x.kids):tJ recOk par b x s:=by
 have a:=h.lv.wf;have c:x.kind=1\/x.kind=2:=by
  rcases zU hx with e|e|e|e
  ·exact .inl e
  ·exact .inr e
  ·exact absurd e h3
  ·exact absurd e h4
 have j:xC x.tag x.txt x.key=true:=by
  rcases c with e|e
  ·exact(dR hx e).2.1
  ·exact(eR hx e).2.1
 have V:1<=pG x:=by
  rcases c with e|e
  ·rw[uP e];omega
  ·rw[uc e];exact Zl
 have F:=km (s:=s) j dA;have t:(LA s (sB (s.1.n+1) x.tag x.txt x.key)).1 = {s.1 with l:=s.1.l++[IB (s.1.n+1) x.tag x.txt x.key],n:=s.1.n+1}:=by
  show(YA s.1 (sB (s.1.n+1) x.tag x.txt x.key)).2=_;unfold YA;rw[if_pos (show(sB (s.1.n+1) x.tag x.txt x.key).op=1 from rfl)];unfold rE;rw[if_neg (show¬((sB (s.1.n+1) x.tag x.txt x.key).id≠s.1.n+1\/xC (sB (s.1.n+1) x.tag x.txt x.key).tag (sB (s.1.n+1) x.tag x.txt x.key).txt (sB (s.1.n+1) x.tag x.txt x.key).key=false) from ?_),if_neg (show¬s.1.R<=s.1.l.length by omega)]
  ·rfl
  ·rintro(e|e)
   ·exact e rfl
   ·have:xC x.tag x.txt x.key=false:=e;rw[j] at this;cases this
 have u:nA s.1.l (IB (s.1.n+1) x.tag x.txt x.key).id=false:=a.next;have q:∀y,find (LA s (sB (s.1.n+1) x.tag x.txt x.key)).1.l y=if y=s.1.n+1 then some (IB (s.1.n+1) x.tag x.txt x.key) else find s.1.l y:=fun y=>by
  rw[t];exact gN u y
 have i:WF (LA s (sB (s.1.n+1) x.tag x.txt x.key)).1:=qE a _;have f:∀y,nA s.1.l y=true->nA (LA s (sB (s.1.n+1) x.tag x.txt x.key)).1.l y=true/\EA (LA s (sB (s.1.n+1) x.tag x.txt x.key)).1.l y=EA s.1.l y:=fun y G=>dY s.1 (sB (s.1.n+1) x.tag x.txt x.key) a G
 have d:nA (LA s (sB (s.1.n+1) x.tag x.txt x.key)).1.l (s.1.n+1)=true:=by
  unfold nA;rw[q,if_pos rfl];rfl
 obtain⟨w,H⟩:=h.here j0;have k:par≠s.1.n+1:=fun e=>by
  have:=(a.pos w).2;omega
 have g:RA (LA s (sB (s.1.n+1) x.tag x.txt x.key)).1.l par=RA s0.1.l par:=by
  rw[<-H];unfold RA;rw[q,if_neg k]
 have I:=a.n0;have J:vD (LA s (sB (s.1.n+1) x.tag x.txt x.key)) (LB (s.1.n+1) par b):=by
  refine aV ⟨d,(f par w).1,?_,Be i d ?_ k,by omega,by rw[g];exact hk⟩
  ·rcases hb with e|e
   ·exact .inl e
   ·obtain⟨z,K⟩:=h.lv.aB b e;obtain⟨L,M⟩:=f b z;refine .inr ⟨L,M.trans K,fun W=>?_⟩;have:=(a.pos z).2;omega
  ·unfold xA;rw[q,if_pos rfl];rfl
 have r:WF (GF par b x s).1:=qE i _;have m:nA (GF par b x s).1.l (s.1.n+1)=true:=((bR (p:=par) i (s.1.n+1) b).1 (s.1.n+1)).trans d;have v:RA (GF par b x s).1.l (s.1.n+1)=x.tag:=by
  have:=((zK i (LB (s.1.n+1) par b)).tag (s.1.n+1) (i.pos d).2 m).2.1;refine this.trans ?_;unfold RA;rw[q,if_pos rfl];rfl
 have A:vJ (GF par b x s).1:=uH MK (uH MK h.may _) _;have N:P3.TC x.attrs≠[]->vD (GF par b x s) (MC (s.1.n+1) (P3.TC x.attrs)):=fun o=>by
  refine I4 m ?_ (P3.Xl hg.mC);rw[v];rcases c with e|e
  ·exact(dR hx e).1
  ·rw[(eR hx e).2.2] at o;exact absurd rfl o
 have O:Tg s.1 (LA s (sB (s.1.n+1) x.tag x.txt x.key)).1:=zK a _;have B:Tg s.1 (GF par b x s).1:=O.trans (zK i _);have P:WF (XF par b x s).1/\nA (XF par b x s).1.l (s.1.n+1)=true/\RA (XF par b x s).1.l (s.1.n+1)=x.tag/\vJ (XF par b x s).1/\(XF par b x s).1.R=s.1.R:=by
  unfold XF;split
  ·exact⟨r,m,v,A,B.room⟩
  ·have C:nA (LA (GF par b x s) (MC (s.1.n+1) (P3.TC x.attrs))).1.l (s.1.n+1)=true:=((zQ (GF par b x s).1 (s.1.n+1) (P3.TC x.attrs)).1 _).trans m;have D:=zK r (MC (s.1.n+1) (P3.TC x.attrs));exact⟨qE r _,C,((D.tag (s.1.n+1) (r.pos m).2 C).2.1).trans v,uH MK A _,D.room.trans B.room⟩
 refine⟨F,J,N,fun E=>hrec _ _ ?_⟩;obtain⟨Q,S,T,U,X⟩:=P;have Y:=fZ par b x s;rw[uP E] at hr;exact T4 Q U S (.inl T) hx hg E dA
theorem jd{l:List Nd}{a:Int}(h:nA l a=true):find l a=some (sC l a):=by
 unfold nA at h;unfold sC;cases hf:find l a with
 |none=>rw[hf] at h;cases h
 |some x=>rfl
theorem Ui{recOk:nO}{s0 s:Sg}{par:Int}{ids:List Int}{x:PW}(j0:J0 s0 par)(h:Jn s0 par ids s){a:Int}(ha:a∈ids)(hx:tC x)(hg:DH x)(ht1:x.kind=1->(RA s.1.l a).toList=x.tag.toList)(ht2:x.kind=2->(RA s.1.l a).toList=[])(hr:s.1.l.length+pG x<=s.1.R)
 (hrec:∀s3 id,gK s3 id (xA s3.1.l id) 0 x.kids->recOk s3 id (xA s3.1.l id) x.kids):NH recOk x a s:=by
 obtain⟨b,q⟩:=h.lv.aB a ha;refine⟨fun e _=>jm b (ht2 e) (eR hx e).1,fun c=>?_⟩;have i:P3.kC (sC s.1.l a).attrs=true:=h.may _ (kG (jd b)).1;have d:(RA s.1.l a).toList≠[]:=(by rw[ht1 c];exact(dR hx c).1);have j:=P3.Oi i hg.mC;refine⟨fun _=>I4 b d j,hrec _ _ ?_⟩;have k:WF (qG x a s).1/\nA (qG x a s).1.l a=true/\RA (qG x a s).1.l a=RA s.1.l a/\vJ (qG x a s).1/\(qG x a s).1.R=s.1.R:=by
  unfold qG;split
  ·have f:nA (LA s (MC a (P3.lD (sC s.1.l a).attrs x.attrs))).1.l a=true:=((zQ s.1 a (P3.lD (sC s.1.l a).attrs x.attrs)).1 _).trans b;have g:=zK h.lv.wf (MC a (P3.lD (sC s.1.l a).attrs x.attrs));exact⟨qE h.lv.wf _,f,(g.tag a (h.lv.wf.pos b).2 f).2.1,uH MK h.may _,g.room⟩
  ·exact⟨h.lv.wf,b,rfl,h.may,rfl⟩
 obtain⟨m,n,o,p,r⟩:=k;have t:=eZ x a s;rw[uP c] at hr;exact T4 m p n (.inr (by rw[o];exact ht1 c)) hx hg c dA
section
variable{rec:Rec}{s0 s:Sg}{par beh:Int}{ids ids':List Int}{want:List PW}{old:List Ol}
theorem um(R:tH rec)(h0:WF s0.1)(hp:par≠0)(hsub:∀i∈ids,i∈ids'){p:Sg×List Int}(hl:∀c∈p.2,c∈ids)(h:Lv s0 par ids' p.1)(x:PW)(t:Int)(ht:x.kind≠4->0<=t->ids.getD t.toNat 0∈ids):Lv s0 par ids' (eF rec par beh ids x t p).1:=by
 unfold eF;split
 ·exact h
 rename_i h4;split
 ·rename_i h0t;have a:=h.move h0 (fun c b=>hsub c (hl c b)) beh (ids.getD t.toNat 0) (p.2.idxOf (ids.getD t.toNat 0)) (hsub _ (ht h4 h0t));simp only;split
  ·exact a
  ·exact a.taken R h0 hp (hsub _ (ht h4 h0t)) x
 split
 ·exact h
 ·exact h.new R h0 _ x
theorem Ja(R:tH rec)(h0:WF s.1)(hp:par≠0)(hk:Kids s par ids)(hd:ids.Nodup)(ho:old.length=ids.length)(hsub:∀i∈ids,i∈ids')(hb:Lv s par ids' s):∀i,i<=want.length->Lv s par ids' (oC rec par beh ids old want s i).1
 |0,_=>hb
 |i+1,hi=>by
  have hi':i<want.length:=dA;have hA:=jM (want:=want) (beh:=beh) R h0 hp hk hd ho i dA;rw[xK hi'];refine um R h0 hp hsub (fun c hc=>?_) (Ja R h0 hp hk hd ho hsub hb i dA) _ _ (fun h4 h0t=>?_)
  ·rw[hA.left] at hc;exact(JH _ _).subset hc
  ·obtain⟨j,a,e1,e2,_,_⟩:=mN ho hi' h0t;rw[AN e1 e2];exact List.mem_of_getElem? e2
end
theorem vP(d0:D):Cl (fun d=>WF d/\Tg d0 d):=fun _ r h=>⟨jN h.1 r,h.2.trans (zK h.1 r)⟩
theorem Df:∀(f:Nat) {s:Sg} {par:Int} {ids:List Int} {beh:Int} {want:List PW},dL want<=f->gK s par ids beh want->cG (f+1) s par ids beh want:=by
 intro f
 induction f with
 |zero=>
  intro s par ids beh want H h;have U:want=[]:=by
   cases want with
   |nil=>rfl
   |cons x r=>
    rw[dL,zN] at H;omega
  subst U;refine⟨fun i d=>absurd d FA,KO h.j0 _ h.jn (fun i d=>UL ids beh i d) h.AD⟩
 |succ f ih=>
  intro s par ids beh want H h;have y:=h.j0;have R:=oJ (f+1);have z:=fun i (d:i<=want.length)=>jM (want:=want) (beh:=beh) (old:=ids.map (QB s.1.l)) R h.wf h.p0 h.kids h.AD FA i d
  have A:∀i,i<=want.length->Jn s par (zM ids beh) (oC (fun s i b w=>uB (f+1) s i b 0 w) par beh ids (ids.map (QB s.1.l)) want s i).1:=fun i d=>
   ⟨Ja R h.wf h.p0 h.kids h.AD FA (UL ids beh) h.jn.lv i d,(bO (vP s.1) (tP (vP s.1) (f+1)) (s:=s) ⟨h.wf,Tg.refl _⟩ i d).2,bO MK (tP MK (f+1)) (s:=s) h.may i d⟩
  have k:∀i,i<=want.length->(∀c∈(oC (fun s i b w=>uB (f+1) s i b 0 w) par beh ids (ids.map (QB s.1.l)) want s i).2,c∈ids)/\(oC (fun s i b w=>uB (f+1) s i b 0 w) par beh ids (ids.map (QB s.1.l)) want s i).2.Nodup:=fun i d=>by
   rw[(z i d).left];exact⟨fun c u=>(JH _ _).subset u,(JH _ _).nodup h.AD⟩
  refine⟨fun i d=>?_,KO y _ (A want.length Zl) (fun c u=>UL ids beh c ((k want.length Zl).1 c u)) (k want.length Zl).2⟩;have hx:=h.BJ _ (List.getElem_mem d);have O:=h.gd _ (List.getElem_mem d);have P:qC (RA s.1.l par)=false:=by
   rcases h.el with e|e
   ·subst e;simp at d
   ·exact e
  have J:=A i dA;obtain⟨I,V⟩:=k i dA;have W:(oC (fun s i b w=>uB (f+1) s i b 0 w) par beh ids (ids.map (QB s.1.l)) want s i).1.1.l.length+pG want[i]<=(oC (fun s i b w=>uB (f+1) s i b 0 w) par beh ids (ids.map (QB s.1.l)) want s i).1.1.R:=by
   have B:=bV (par:=par) (beh:=beh) (ids:=ids) (old:=ids.map (QB s.1.l)) (s:=s) (Q4 (f+1)) h.BJ i dA;have Q:=L4 d;have K:=h.room;rw[J.tg.room];omega
  have n:∀C id,gK C id (xA C.1.l id) 0 want[i].kids->cG (f+1) C id (xA C.1.l id) 0 want[i].kids:=fun C id X=>ih (by
   have:=Nat.le_trans (eW (List.getElem_mem d)) H;rw[zN] at this;omega) X
  have p:beh=0\/beh∈zM ids beh/\beh∉ids:=by
   rcases h.beh with e|⟨_,_,e⟩
   ·exact .inl e
   ·by_cases S:beh=0
    ·exact .inl S
    ·exact .inr ⟨by unfold zM;rw[if_neg S];simp,e⟩
  intro Y;refine⟨fun v=>?_,fun v K=>?_⟩
  ·have D:(ids.map (QB s.1.l)).length=ids.length:=FA;obtain⟨j,a,T,G,Z,_⟩:=mN (old:=ids.map (QB s.1.l)) D d v;rw[AN T G];have m:a∈ids:=List.mem_of_getElem? G;have L:a∈(oC (fun s i b w=>uB (f+1) s i b 0 w) par beh ids (ids.map (QB s.1.l)) want s i).2:=by
    rw[(z i dA).left];exact cR Z G
   obtain⟨m1,M⟩:=rm y P J (fun c u=>UL ids beh c (I c u)) V L (p.imp id (fun⟨e,e'⟩=>⟨e,fun u=>e' (I _ u)⟩));refine⟨m1,fun K=>?_⟩;have E:=YU (old:=ids.map (QB s.1.l)) d;have q:=v;rw[E] at q;obtain⟨j',o,fl,a0,e4,B,_,g⟩:=sT _ q;rw[<-E,T] at e4;have ej:j=j':=dA;subst ej;have ho:o=QB s.1.l a:=by
    rw[List.getElem?_map,G] at B;exact(Option.some.inj B).symm
   have F:nA s.1.l a=true:=(h.kids a m).1;have t:RA (aD (oC (fun s i b w=>uB (f+1) s i b 0 w) par beh ids (ids.map (QB s.1.l)) want s i).1 par (oC (fun s i b w=>uB (f+1) s i b 0 w) par beh ids (ids.map (QB s.1.l)) want s i).2 beh a ((oC (fun s i b w=>uB (f+1) s i b 0 w) par beh ids (ids.map (QB s.1.l)) want s i).2.idxOf a)).1.1.l a=o.tag:=by
    rw[M.tag y (UL ids beh a m) F,ho];unfold RA QB;have:=jd F;rw[this]
   have a1:=dZ (oC (fun s i b w=>uB (f+1) s i b 0 w) par beh ids (ids.map (QB s.1.l)) want s i).1 par (oC (fun s i b w=>uB (f+1) s i b 0 w) par beh ids (ids.map (QB s.1.l)) want s i).2 beh a ((oC (fun s i b w=>uB (f+1) s i b 0 w) par beh ids (ids.map (QB s.1.l)) want s i).2.idxOf a);have N:(aD (oC (fun s i b w=>uB (f+1) s i b 0 w) par beh ids (ids.map (QB s.1.l)) want s i).1 par (oC (fun s i b w=>uB (f+1) s i b 0 w) par beh ids (ids.map (QB s.1.l)) want s i).2 beh a ((oC (fun s i b w=>uB (f+1) s i b 0 w) par beh ids (ids.map (QB s.1.l)) want s i).2.idxOf a)).1.1.R=(oC (fun s i b w=>uB (f+1) s i b 0 w) par beh ids (ids.map (QB s.1.l)) want s i).1.1.R:=M.tg.room.trans J.tg.room.symm;unfold fD at g;refine Ui y M (UL ids beh a m) hx O (fun B=>?_) (fun Q=>?_) (by rw[N];omega) n
   ·rw[if_pos B] at g;simp only[Bool.and_eq_true] at g;rw[t];unfold bq at g;simpa using g.1.1
   ·rw[if_neg dA,if_pos Q] at g;simp only[Bool.and_eq_true] at g;rw[t];simpa using g.2
  ·refine Lq y P J hx O Y K ?_ W n;cases hp2:(oC (fun s i b w=>uB (f+1) s i b 0 w) par beh ids (ids.map (QB s.1.l)) want s i).2 with
   |nil=>exact p.imp id (fun e=>e.1)
   |cons c r=>exact .inr (UL ids beh c (I c (by rw[hp2];simp)))
end P19
namespace P13
open Go.RowKit Kd P4 P5 P11 P12
def dv:Prop:=∀(l:List In) (A:vA) (n c:Nat) (w:World),kX.AA w w.heap.size A l->l.length=n->n<=c->c<=maxLen->n<=1000->(∀i∈l,i.a.size<=300/\i.b.size<=300)->
 jA 199 #[.slice A n c] w fun e w'=>e= .returned (QA (WD l:Nat))/\fA w w'
end P13
namespace P19
open P5 P14 P16
section
variable{rec:Rec}{s0 s:Sg}{par beh:Int}{ids:List Int}{want:List PW}{old:List Ol}
theorem yY(ho:old.length=([]:List Int).length){i:Nat}(hi:i<want.length):¬0<=((foldM old want).take[i]'(by rw[take_len];exact hi)):=fun h=>by
 obtain⟨j,a,_,b,_⟩:=mN (ids:=[]) ho hi h;simp at b
theorem lV(R:tH rec)(h0:WF s.1)(ho:old.length=([]:List Int).length):∀i,i<=want.length->At par [] old want s i (oC rec par beh [] old want s i)
 |0,_=>⟨⟨h0,XE.refl _ _,fun _ h=>by cases h⟩,by
  show([]:List Int)=OE [] _;unfold OE;rfl⟩
 |i+1,hi=>by
  have h:=lV R h0 ho i dA;have hi':i<want.length:=dA;have hn:=yY ho hi';have hs:∀fl,OE ([]:List Int) fl=[]:=fun fl=>by unfold OE;rfl
  have hl:(oC rec par beh [] old want s i).2=[]:=h.left.trans (hs _);rw[xK hi'];unfold eF;split
  ·exact⟨h.lv,(hs _).symm⟩
  split
  ·exact⟨h.lv,hl.trans (hs _).symm⟩
  ·exact⟨h.lv.new R h0 _ _,hl.trans (hs _).symm⟩
theorem mV(R:tH rec)(h0:WF s.1)(hp:par≠0\/ids=[])(hk:Kids s par ids)(hd:ids.Nodup)(ho:old.length=ids.length):∀i,i<=want.length->At par ids old want s i (oC rec par beh ids old want s i):=by
 rcases hp with hp|rfl
 ·exact jM R h0 hp hk hd ho
 ·exact lV R h0 ho
theorem Jb(R:tH rec)(RL:kM rec)(h0:WF s.1)(hp:par≠0\/ids=[])(hk:Kids s par ids)(hd:ids.Nodup)(hl:ids.length<=200)(ho:old.length=ids.length):∀i,i<=want.length->
 (oC rec par beh ids old want s i).1.1.n<=s.1.n+(pC (want.take i):Nat)/\(oC rec par beh ids old want s i).1.2.length<=s.2.length+2000*pC (want.take i):=by
 rcases hp with hp|rfl
 ·exact wV R RL h0 hp hk hd hl ho
 ·intro i
  induction i with
  |zero=>
   intro _;show s.1.n<=s.1.n+(pC (want.take 0):Nat)/\s.2.length<=s.2.length+2000*pC (want.take 0);exact⟨by omega,by omega⟩
  |succ i ih=>
   intro e;obtain⟨c,d⟩:=ih dA;have a:i<want.length:=dA;have b:=(lV (par:=par) (beh:=beh) (want:=want) R h0 ho i dA).lv.wf;have f:=yY (want:=want) ho a;rw[xK a,U3 a,nN];generalize oC rec par beh [] old want s i=p at c d b;unfold eF;split
   ·(try dsimp only);exact⟨by omega,by omega⟩
   split
   ·(try dsimp only);exact⟨by omega,by omega⟩
   ·obtain⟨g,j⟩:=Ca (par:=par) RL b (vB p.2 beh) want[i]
    (try dsimp only);exact⟨by omega,by omega⟩
end
section
variable{s:Sg}{par:Int}
theorem Ke{l:List Nd}{i:Int}{f:Nd->Nd}(h1:∀x,(f x).id=x.id)(h2:∀x,(f x).kids=x.kids)(y:Int):xA (mB l i f) y=xA l y:=by
 rw[YQ (f:=f) h1 (g:=fun x=>x.kids) h2];unfold xA;cases find l y<;>simp
theorem Vj(d:D)(i:Int)(a:List P3.At)(y:Int):xA (XD d i a).2.l y=xA d.l y:=by
 unfold XD;split
 ·rfl
 split
 ·rfl
 split
 ·rfl
 ·exact Ke (l:=d.l) (i:=i) (f:=pH a) (fun _=>rfl) (fun _=>rfl) y
theorem nX(s:Sg)(i:Int)(a:List P3.At)(y:Int):xA (LA s (MC i a)).1.l y=xA s.1.l y:=Vj s.1 i a y
theorem bN(x:PW)(id:Int)(s:Sg)(y:Int):xA (qG x id s).1.l y=xA s.1.l y:=by
 unfold qG;split
 ·exact nX _ _ _ _
 ·rfl
theorem Tf{l:List Nd}{i:Int}(h:nA l i=true):inside l i i=true:=by
 unfold inside dH;rw[up,if_pos h];simp
theorem Wj{d:D}{i p b:Int}(hi:EA d.l i=0)(hk:xA d.l i=[]):xA (YD d i p b).2.l i=[]:=by
 unfold YD;split
 ·rename_i h;have a:=SM h;have c:i≠p:=fun e=>by
   have f:=a.hn;rw[<-e,Tf a.hi] at f;cases f
  show xA (SA d.l i p b) i=[];unfold SA UA;rw[if_pos hi,yU,bU a.hp,pE _ _ c];exact hk
 ·exact hk
theorem Oo(hw:WF s.1):xA s.1.l (s.1.n+1)=[]/\EA s.1.l (s.1.n+1)=0:=by
 have a:=hw.next;unfold nA at a;unfold xA EA;cases hf:find s.1.l (s.1.n+1) with
 |none=>exact⟨rfl,rfl⟩
 |some x=>rw[hf] at a;cases a
theorem GU(hw:WF s.1)(tag txt key:qA):xA (LA s (sB (s.1.n+1) tag txt key)).1.l (s.1.n+1)=[]/\EA (LA s (sB (s.1.n+1) tag txt key)).1.l (s.1.n+1)=0:=by
 show xA (rE s.1 (sB (s.1.n+1) tag txt key)).2.l (s.1.n+1)=[]/\EA (rE s.1 (sB (s.1.n+1) tag txt key)).2.l (s.1.n+1)=0;have a:=Oo hw;unfold rE;split
 ·exact a
 split
 ·exact a
 ·show xA (s.1.l++[IB (s.1.n+1) tag txt key]) (s.1.n+1)=[]/\EA (s.1.l++[IB (s.1.n+1) tag txt key]) (s.1.n+1)=0;have b:find (s.1.l++[IB (s.1.n+1) tag txt key]) (s.1.n+1)=some (IB (s.1.n+1) tag txt key):=by
   rw[gN (x:=IB (s.1.n+1) tag txt key) hw.next (s.1.n+1)];exact if_pos rfl
  unfold xA EA;rw[b];exact⟨rfl,rfl⟩
theorem MZ(hw:WF s.1)(b:Int)(x:PW):xA (GF par b x s).1.l (s.1.n+1)=[]:=by
 obtain⟨a,c⟩:=GU hw x.tag x.txt x.key;exact Wj c a
theorem TQ(hw:WF s.1)(b:Int)(x:PW):xA (XF par b x s).1.l (s.1.n+1)=[]:=by
 unfold XF;split
 ·exact MZ hw b x
 ·rw[nX];exact MZ hw b x
end
end P19
namespace P2
open Go.RowKit
def GM(s:qA):qA:=⟨((EM s.data.toList).getD []).toArray⟩
def vM(s:qA):Bool:=(EM s.data.toList).isSome
theorem toList_nil{s:qA}(h:s.size=0):s.toList=[]:=by
 rw[ByteArray.toList_eq];apply List.eq_nil_of_length_eq_zero;simpa using h
theorem toList_cons{s:qA}(h:0<s.size):s.toList.isEmpty=false:=by
 rw[ByteArray.toList_eq];cases e:s.data.toList with
 |nil=>
  have:s.data.toList.length=s.size:=FA;rw[e] at this;simp at this;omega
 |cons c r=>rfl
theorem Q7{s:qA}{c:UInt8}{k:Nat}(h:VF s.data.toList=some (c,k)):1<=k/\k<=s.size:=by
 obtain⟨a,rfl⟩:=cX h;obtain⟨r,b⟩:=xO.1 a;have d:s.data.toList.length=s.size:=FA;have e:=(ZM c).1;rw[b,List.length_append] at d;omega
theorem Eh(s:qA)(w:World)(h:0<s.size)(he:VF s.data.toList=none):jA 212 #[bA s] w fun e w'=>e= .returned (.tuple #[.int .u8 0,aA 0])/\w=w':=by
 have:=gI s w h;rw[he] at this;exact this
theorem Fh(s:qA)(w:World){c:UInt8}{k:Nat}(h:0<s.size)(he:VF s.data.toList=some (c,k)):jA 212 #[bA s] w fun e w'=>e= .returned (.tuple #[.int .u8 (c.toNat:Int),aA (k:Int)])/\w=w':=by
 have:=gI s w h;rw[he] at this;exact this
def Left(s x:qA)(out:uA):Prop:=∃n,x.size<=n/\EM s.data.toList=(SG n x.data.toList).map (out ++ ·)
theorem Left.start(s:qA):Left s s []:=⟨s.size,Zl,by
 have:s.data.toList.length=s.size:=FA;rw[EM,this];cases SG s.size s.data.toList<;>simp⟩
theorem qo{x:qA}(h:x.size=0):x.data.toList=[]:=by
 apply List.eq_nil_of_length_eq_zero;simpa using h
theorem JZ{x:qA}(h:0<x.size):x.data.toList≠[]:=by
 intro e;have:x.data.toList.length=x.size:=FA;rw[e] at this;simp at this;omega
theorem Left.done{s x:qA}{out:uA}(h:Left s x out)(hx:x.size=0):GM s=⟨out.toArray⟩/\vM s=true:=by
 obtain⟨n,_,e⟩:=h;have:SG n x.data.toList=some []:=(by rw[qo hx];cases n<;>simp[SG]);rw[this] at e;unfold GM vM;rw[e];simp
theorem Left.yd{s x:qA}{out:uA}(h:Left s x out)(hx:0<x.size)(he:VF x.data.toList=none):GM s=ByteArray.empty/\vM s=false:=by
 obtain⟨n,a,e⟩:=h;obtain⟨m,rfl⟩:∃m,n=m+1:=⟨n-1,by omega⟩;rw[SG,if_neg (JZ hx),he] at e;unfold GM vM;rw[e];exact⟨rfl,rfl⟩
theorem U7(x:qA)(k:Nat):(x.extract k x.size).data.toList=x.data.toList.drop k:=by
 rw[Lib.extract_data];apply List.take_of_length_le;simp
theorem Left.next{s x:qA}{out:uA}(h:Left s x out)(hx:0<x.size){c:UInt8}{k:Nat}(he:VF x.data.toList=some (c,k)):Left s (x.extract k x.size) (out++[c]):=by
 obtain⟨n,a,e⟩:=h;obtain⟨m,rfl⟩:∃m,n=m+1:=⟨n-1,by omega⟩;have b:=Q7 he;rw[SG,if_neg (JZ hx),he] at e;refine⟨m,by rw[ByteArray.size_extract];omega,?_⟩;rw[e,U7];show Option.map _ (Option.map _ (SG m (x.data.toList.drop k)))=_;cases SG m (x.data.toList.drop k)<;>simp
theorem zb{a b:qA}{c d:Bool}(h:a=b)(h2:c=d):Ending.returned (.tuple #[bA a,.bool c])= .returned (.tuple #[bA b,.bool d]):=by rw[h,h2]
theorem KR(s:ByteArray)(w:World)(hs:s.size<=600000):Calls prog 188 #[.string s] w fun e w'=>e= .returned (.tuple #[.string (GM s),.bool (vM s)])/\Below w.heap.size w w':=by
 go_enter func188,ntmps188;go_wp2_with fail;go_loopw [0] (fun t wr=>∃(x:ByteArray) (a:List UInt8),t= .string x/\a.length+x.size<=s.size/\Hid (Left s x a)/\Hid (Lib.IsBuilder 219 5 w.heap.size w.heap.size (Lib.byteCells a) wr)/\Hid (Below w.heap.size w wr)) (fun t _=>match t with| .string x=>x.size|_=>0)
 case atStart=>exact⟨s,[],rfl,by simp,Zh (Left.start s),Zh (Lib.fresh_isBuilder 219 5 w),Zh (Zb _ _)⟩
 case round=>
  obtain⟨x,a,rfl,E,g,m,j⟩:=hrel;have i:w.heap.size<=wr.heap.size:=j.out.size;have q:(Lib.byteCells a).length<=600000:=(by rw[Lib.byteCells_length];omega);by_cases hx:x.size=0
  ·have r:x.toList=[]:=toList_nil hx;have d:x.toList.isEmpty=true:=(by rw[r];rfl);have n:=Zh hx;clear hx;go_wp2_with fail;refine(Bd.dN w.heap.size w.heap.size _ _ m.out i).mono ?_;rintro e u ⟨rfl,l⟩;go_wp2_with fail;go_ret2;exact⟨zb (g.out.done n.out).1.symm (g.out.done n.out).2.symm,j.out.trans l⟩
  ·have b:0<x.size:=(by omega);have d:x.toList.isEmpty=false:=toList_cons b;have v:¬x.toList=[]:=(by intro e;rw[e] at d;cases d);clear hx;cases hh:VF x.data.toList with
   |none=>
    have f:=Zh hh;clear hh;go_wp2_with fail;refine(Eh _ _ b f.out).mono ?_;rintro e w' ⟨rfl,rfl⟩;go_wp2_with fail;go_ret2;exact⟨zb (g.out.yd b f.out).1.symm (g.out.yd b f.out).2.symm,j.out⟩
   |some p=>
    obtain⟨c,k⟩:=p;have y:=Q7 hh;have f:=Zh hh;clear hh;obtain⟨z,A⟩:=y;have B:((k:Int)==0)=false:=(by simp;omega);go_wp2_with fail;refine(Fh _ _ b f.out).mono ?_;rintro e w' ⟨rfl,rfl⟩;go_wp2_with fail;refine(Bd.y7 w.heap.size w.heap.size _ (c.toNat:Int) _ m.out (by omega) i).mono ?_;rintro e u ⟨rfl,o,l⟩;have C:=Zh o;have D:=Zh l;clear o l;go_wp2_with fail;go_roundw
    case rel=>exact⟨_,a++[c],rfl,by rw[ByteArray.size_extract];simp;omega,Zh (g.out.next b f.out),Zh (by rw[Lib.byteCells_append];exact C.out),Zh (j.out.trans D.out)⟩
    case measure=>simp;omega
end P2
namespace P20
open P5 P19
inductive Sb(l:List Nd):Int->Int->Prop
 |refl (a:Int):Sb l a a
 |aB {a c y:Int} (hc:c∈xA l a) (h:Sb l c y):Sb l a y
section
variable{l l':List Nd}{a b c y:Int}{d d':D}
theorem Sb.vu(h:Sb l a y):y=a\/∃c,c∈xA l a/\Sb l c y:=by
 cases h with
 |refl=>exact .inl rfl
 |aB hc h=>exact .inr ⟨_,hc,h⟩
theorem Sb.trans(h:Sb l a b)(k:Sb l b y):Sb l a y:=by
 induction h with
 |refl=>exact k
 |aB hc _ ih=>exact .aB hc (ih k)
theorem Sb.one(h:c∈xA l a):Sb l a c:=.aB h (.refl c)
theorem Ia(h:∀y,Sb l a y->xA l' y=xA l y):∀y,Sb l' a y↔Sb l a y:=fun y=>by
 constructor
 ·intro k
  induction k with
  |refl=>exact .refl _
  |@aB a c y hc _ ih=>
   rw[h a (.refl a)] at hc;exact .aB hc (ih (fun z b=>h z (.aB hc b)))
 ·intro k
  induction k with
  |refl=>exact .refl _
  |@aB a c y hc _ ih=>exact .aB (by rw[h a (.refl a)];exact hc) (ih (fun z b=>h z (.aB hc b)))
theorem Pe(h:find l' y=find l y):xA l' y=xA l y:=by unfold xA;rw[h]
theorem Iq(h:∀y,Sb l a y->find l' y=find l y):∀y,Sb l' a y↔Sb l a y:=Ia fun y b=>Pe (h y b)
theorem fW(hw:WF d)(h:Sb d.l a y):∃k,it (EA d.l) k y=a:=by
 induction h with
 |refl=>exact⟨0,rfl⟩
 |@aB a c y hc _ ih=>
  obtain⟨k,b⟩:=ih;exact⟨k+1,by rw[OF,b];exact(hw.tr.aB a c hc).2.2⟩
theorem Zc(hw:WF d)(ha:a≠0):∀(k:Nat) {y:Int},it (EA d.l) k y=a->Sb d.l a y
 |0,y,h=>by
  have h:y=a:=h;subst h;exact .refl _
 |k+1,y,h=>by
  have h:it (EA d.l) k (EA d.l y)=a:=h;have h1:=Zc hw ha k h;have h0:EA d.l y≠0:=fun e=>by
   rw[e,hw.tr.US] at h;exact ha h.symm
  exact h1.trans (Sb.one (hw.tr.par y h0))
theorem J4(hw:WF d){p c1 c2:Int}(h1:c1∈xA d.l p)(h2:c2∈xA d.l p)(hne:c1≠c2)(k1:Sb d.l c1 y)(k2:Sb d.l c2 y):False:=by
 obtain⟨i,a⟩:=fW hw k1;obtain⟨j,b⟩:=fW hw k2;rcases Nat.lt_trichotomy i j with h|h|h
 ·exact hw.tr.FQ h1 h2 a b h
 ·subst h;exact hne (a.symm.trans b)
 ·exact hw.tr.FQ h2 h1 b a h
theorem yV(hw:WF d){p c:Int}(h:c∈xA d.l p):¬Sb d.l c p:=fun k=>by
 obtain⟨i,a⟩:=fW hw k;obtain⟨b,_,e⟩:=hw.tr.aB p c h;exact hw.tr.IL (x:=p) (j:=i) (hw.tr.jG b) (by rw[OF,a];exact e)
theorem Jq(l:List Nd)(i:Int)(f:List Int->List Int)(y:Int):find (mB l i (YC f)) y=(find l y).map fun x=>if x.id=i then YC f x else x:=bJ l i (YC f) (fun _=>rfl) y
theorem Kq(l:List Nd)(i v:Int)(y:Int):find (mB l i (VD v)) y=(find l y).map fun x=>if x.id=i then VD v x else x:=bJ l i (VD v) (fun _=>rfl) y
theorem Si(hw:WF d){i p:Int}(hi:EA d.l i=p)(hp:p≠0)(y:Int):(Sb d.l i y->find (ED d.l i) y=none)/\(¬Sb d.l i y->find (ED d.l i) y=if y=p then(find d.l p).map (YC (less i)) else find d.l y):=by
 have m:nA d.l i=true:=hw.tr.Md (by rw[hi];exact hp);have n:i∈xA d.l p:=(by have:=hw.tr.par i (by rw[hi];exact hp);rw[hi] at this;exact this);have k:=PJ (i:=i) hw.tr;have l:Hb (xA (UA d.l i)) ((UA d.l i).length+1) i:=by
  have:=k.JK (L:=MA (UA d.l i)) (fun y o=>zE.1 o) (y:=i) (by rw[qH];exact m);simpa[MA] using this
 have g:∀y,Sb (UA d.l i) i y↔Sb d.l i y:=Ia fun z q=>by
  rw[PX hw.tr,hi];exact pE _ _ (fun e=>yV hw n (e▸q))
 have b:∀y,y∈below (UA d.l i) i↔Sb d.l i y:=fun y=>by
  rw[<-g y];unfold below;constructor
  ·intro h;have key:∀(f:Nat) (x y:Int),y∈sub (xA (UA d.l i)) f x->Sb (UA d.l i) x y:=by
    intro f
    induction f with
    |zero=>intro x y h;simp[sub] at h
    |succ f ih=>
     intro x y h;simp only[sub,List.mem_cons,List.mem_flatMap] at h;rcases h with rfl|⟨c,hc,h⟩
     ·exact .refl _
     ·exact .aB hc (ih c y h)
   exact key _ _ _ h
  ·intro h;have key:∀a y,Sb (UA d.l i) a y->a∈sub (xA (UA d.l i)) ((UA d.l i).length+1) i->y∈sub (xA (UA d.l i)) ((UA d.l i).length+1) i:=by
    intro a y h
    induction h with
    |refl=>exact fun h=>h
    |aB hc _ ih=>exact fun h=>ih (SU _ _ _ _ l h hc)
   exact key _ _ h (sub_self l)
 refine⟨fun h=>?_,fun h=>?_⟩
 ·unfold ED;rw[BI,if_pos ((b y).2 h)]
 ·unfold ED;rw[BI,if_neg (fun e=>h ((b y).1 e))];unfold UA;rw[if_neg (by rw[hi];exact hp),hi,Kq,Jq];have j:y≠i:=fun e=>h (by rw[e];exact .refl _)
  cases hf:find d.l y with
  |none=>
   by_cases e:y=p
   ·subst e;rw[if_pos rfl,hf];rfl
   ·rw[if_neg e];rfl
  |some x=>
   have hx:=(kG hf).2;subst hx;simp only[Option.map_some];by_cases e:x.id=p
   ·rw[if_pos e,if_pos e,<-e,hf,if_neg (by exact j)];rfl
   ·rw[if_neg e,if_neg e,if_neg j]
end
theorem mm{a:Int}{P Q:List Int}(hd:(P++a:: Q).Nodup):less a (P++a:: Q)=P++Q:=by
 obtain⟨_,c,d⟩:=List.nodup_append.1 hd;obtain⟨f,_⟩:=List.nodup_cons.1 c;have b:∀L:List Int,a∉L->less a L=L:=fun L g=>by
  unfold less;rw[List.filter_eq_self];intro x hx;simp only[decide_eq_true_eq];exact fun e=>g (e▸hx)
 have i:less a (P++a:: Q)=less a P++less a Q:=by
  unfold less;rw[List.filter_append,List.filter_cons,if_neg FA]
 rw[i,b P (fun h=>d a h a FA rfl),b Q f]
end P20
namespace P20
open P5 P14 P16 P19
def gW(l l':List Nd)(i:Int):Prop:=∀y,Sb l i y->find l' y=find l y
section
variable{l l' l2 l2':List Nd}{i:Int}
theorem gW.sb(h:gW l l' i)(y:Int):Sb l' i y↔Sb l i y:=Iq h y
end
section
variable{s s' s2:Sg}{i par b:Int}
theorem Ka(h:vD s (ZC i)):(LA s (ZC i)).1 = {s.1 with l:=ED s.1.l i,nB:=if s.1.nB∈below (UA s.1.l i) i then 0 else s.1.nB}:=by
 unfold vD at h;show(YA s.1 (ZC i)).2=_;unfold YA at h|-;rw[if_neg (show¬(ZC i).op=1 from(by decide:¬(3:Int)=1)),if_neg (show¬(ZC i).op=2 from(by decide:¬(3:Int)=2)),if_pos (show(ZC i).op=3 from rfl)] at h|-;unfold uF at h|-;split
 ·rename_i hn;rw[if_pos hn] at h;simp at h
 split
 ·rename_i h1 h2;rw[if_neg h1,if_pos h2] at h;simp at h
 ·rfl
structure YP(s s':Sg)(par:Int)(K:List Int):Prop where
 wf:WF s'.1
 n:s'.1.n=s.1.n
 at_:∀y,find s'.1.l y=if y=par then(find s.1.l par).map (YC fun _=>K) else find s.1.l y
theorem YP.Rv{K:List Int}(h:YP s s' par K):find s'.1.l par=(find s.1.l par).map (YC fun _=>K):=by rw[h.at_,if_pos rfl]
theorem YP.refl(hw:WF s.1){K:List Int}(hk:xA s.1.l par=K):YP s s par K:=by
 refine⟨hw,rfl,fun y=>?_⟩;by_cases e:y=par
 ·subst e;rw[if_pos rfl];cases hf:find s.1.l y with
  |none=>rfl
  |some x=>
   have:x.kids=K:=(by rw[<-hk];exact(EI hf).symm);show some x=some ({x with kids:=K});rw[<-this]
 ·rw[if_neg e]
end
theorem Vi{l l':List Nd}{par:Int}{K:List Int}(h:find l' par=(find l par).map (YC fun _=>K))(hp:nA l par=true):xA l' par=K:=by
 obtain⟨x,hx⟩:=uK hp;unfold xA;rw[h,hx];rfl
theorem Wi{l l':List Nd}{par:Int}{K:List Int}(h:find l' par=(find l par).map (YC fun _=>K))(hp:nA l par=true):nA l' par=true:=by
 obtain⟨x,hx⟩:=uK hp;unfold nA;rw[h,hx];rfl
section
variable{s0:Sg}{par:Int}{ids T kept:List Int}{want:List PW}{pre post:List Int}{i:Nat}{p p':Sg×List Int}{done o2:List Int}
end
structure xc(s s':Sg)(par:Int)(L K:List Int):Prop where
 wf:WF s'.1
 n:s'.1.n=s.1.n
 Qd:find s'.1.l par=(find s.1.l par).map (YC fun _=>K)
 fr:∀y,y≠par->(∀a∈L,¬Sb s.1.l a y)->find s'.1.l y=find s.1.l y
 gone:∀a∈L,∀y,Sb s.1.l a y->find s'.1.l y=none
theorem gZ{par:Int}{P Q:List Int}:∀(L:List Int) {s:Sg},WF s.1->nA s.1.l par=true->xA s.1.l par=P++(L++Q)->gJ L s->xc s (cC L s) par L (P++Q)
 |[],s,hw,hp,hk,_=>⟨hw,rfl,(YP.refl hw (by simpa using hk)).Rv,fun _ _ _=>rfl,fun a ha=>by cases ha⟩
 |a:: L,s,hw,hp,hk,hok=>by
  obtain⟨h1,h2⟩:=hok;have hp0:par≠0:=hw.tr.jG hp;have hak:a∈xA s.1.l par:=(by rw[hk];simp);have hpa:EA s.1.l a=par:=(hw.tr.aB par a hak).2.2;have hd:=hw.tr.AD par;rw[hk] at hd;have g:=Si hw hpa hp0;have hl:(LA s (ZC a)).1.l=ED s.1.l a:=(by rw[Ka h1]);have hpn:=yV hw hak;have e1:find (LA s (ZC a)).1.l par=(find s.1.l par).map (YC fun _=>P++(L++Q)):=by
   rw[hl,(g par).2 hpn,if_pos rfl];obtain⟨x,hx⟩:=uK hp;have hxk:x.kids=P++a:: (L++Q):=(by rw[<-EI hx,hk];rfl);rw[hx];show some ({x with kids:=less a x.kids})=some ({x with kids:=P++(L++Q)});rw[hxk,mm (by simpa using hd)]
  have hw1:WF (LA s (ZC a)).1:=qE hw _;have r:=gZ L hw1 (Wi e1 hp) (Vi e1 hp) h2;have hsame:∀b∈L,gW s.1.l (LA s (ZC a)).1.l b:=fun b hb y hy=>by
   have hbk:b∈xA s.1.l par:=(by rw[hk];simp[hb]);have hne:a≠b:=fun e=>by
    subst e;have h3:=(List.nodup_append.1 hd).2.1;exact(List.nodup_cons.1 h3).1 (by simp[hb])
   rw[hl,(g y).2 (fun h=>J4 hw hak hbk hne h hy),if_neg (show¬y=par from fun e=>yV hw hbk (e▸hy))]
  refine⟨r.wf,r.n.trans (by rw[Ka h1]),?_,fun y hy hno=>?_,fun b hb y hy=>?_⟩
  ·show find (cC L (LA s (ZC a))).1.l par=_;rw[r.Qd,e1,Option.map_map];rfl
  ·show find (cC L (LA s (ZC a))).1.l y=_;have hna:=hno a FA;rw[r.fr y hy (fun b hb h=>hno b (by simp[hb]) (((hsame b hb).sb y).1 h)),hl,(g y).2 hna,if_neg hy]
  ·show find (cC L (LA s (ZC a))).1.l y=none;rcases List.mem_cons.1 hb with rfl|hb
   ·have hnone:find (LA s (ZC b)).1.l y=none:=(by rw[hl];exact(g y).1 hy);have hyp:y≠par:=fun e=>hpn (e▸hy)
    rw[r.fr y hyp (fun c hc h=>?_),hnone];have hcs:=hsame c hc;have hck:c∈xA s.1.l par:=(by rw[hk];simp[hc]);have hne:b≠c:=fun e=>by
     subst e;have h3:=(List.nodup_append.1 hd).2.1;exact(List.nodup_cons.1 h3).1 (by simp[hc])
    exact J4 hw hak hck hne hy ((hcs.sb y).1 h)
   ·exact r.gone b hb y (((hsame b hb).sb y).2 hy)
end P20

namespace P8
open Go.RowKit Kd P4 P5
def sy:Prop:=∀(t:TV) (w:World),EC w w.heap.size t->JG (er t)=true->countP (er t)<=1000->jA 126 #[.agg #[bA t.tag,bA t.txt,bA t.key,.slice t.sa.A t.sa.n t.sa.c,.slice t.sk.A t.sk.n t.sk.c]] w fun e w'=>e= .returned (.bool (iC (er t)))/\fA w w'
section
variable{w:World}{s:Nat}
end
theorem mayText_any(t:TV)(w:World)(ht:t.tag.toList.isEmpty=true)(h:EC w w.heap.size t)(m2:t.txt.size<=maxLen):jA 164 #[.agg #[bA t.tag,bA t.txt,bA t.key,.slice t.sa.A t.sa.n t.sa.c,.slice t.sk.A t.sk.n t.sk.c]] w fun e w'=>e= .returned (.bool (iC (er t)))/\fA w w':=by
 obtain⟨tag,txt,key,⟨A,n,c⟩,attrs,⟨a,n2,d⟩,kids⟩:=t;have m:attrs.length=n:=h.al;have o:kids.length=n2:=h.kl;have m2:txt.size<=maxLen:=m2;have r:tag.toList.isEmpty=true:=ht;have i:Hid (fA w (w.alloc (.cells #[bA tag,bA txt,bA key,.slice A n c,.slice a n2 d] 81))):=Zh (Zb _ _);have g:Hid (TB (w.alloc (.cells #[bA tag,bA txt,bA key,.slice A n c,.slice a n2 d] 81)) w.heap.size (.mk tag txt key ⟨A,n,c⟩ attrs ⟨a,n2,d⟩ kids)):=Zh (TB.new w (.mk tag txt key ⟨A,n,c⟩ attrs ⟨a,n2,d⟩ kids));have p:attrs.isEmpty=decide (n=0):=(by rw[<-m];cases attrs<;>simp);have q:(yA kids).isEmpty=decide (n2=0):=(by rw[<-o,nC];cases kids<;>simp);obtain⟨s,f⟩:=DA (P1.yC txt.data.toList);have u:=Zh f;have l:Hid (iC (er (.mk tag txt key ⟨A,n,c⟩ attrs ⟨a,n2,d⟩ kids))=(s&&key.toList.isEmpty&&decide (n=0)&&decide (n2=0))):=Zh (by rw[er,iC,r,if_pos rfl,p,q,f]);clear h ht m o f p q;show jA 164 #[.agg #[bA tag,bA txt,bA key,.slice A n c,.slice a n2 d]] w _;go_enter func164,ntmps164;go_upto_region 1 with fail;generalize w.alloc (.cells #[bA tag,bA txt,bA key,.slice A n c,.slice a n2 d] 81)=W at i g|-;have x:W.cell? ⟨w.heap.size,0,none⟩=some (bA tag):=g.c0;have y:W.cell? ⟨w.heap.size,1,none⟩=some (bA txt):=g.c1;have z:W.cell? ⟨w.heap.size,2,none⟩=some (bA key):=g.c2;have B:W.cell? ⟨w.heap.size,3,none⟩=some (.slice A n c):=g.c3;have C:W.cell? ⟨w.heap.size,4,none⟩=some (.slice a n2 d):=g.c4;cases kE:key.toList.isEmpty with
 |false=>
  go_wp2_with fail;go_ret;exact⟨by rw[l.out,kE];simp,i⟩
 |true=>
  by_cases j:n=0
  ·subst j;by_cases k:n2=0
   ·subst k;go_wp2_with fail;refine PA (P3.GH txt _ u m2) ?_;go_wp2_with fail;go_ret;exact⟨by rw[l.out,kE];simp,i⟩
   ·have v:((n2:Int)==0)=false:=jB;go_wp2_with fail;go_ret;exact⟨by rw[l.out,kE];simp[k],i⟩
  ·have D:((n:Int)==0)=false:=jB;go_wp2_with fail;go_ret;exact⟨by rw[l.out,kE];simp[j],i⟩
end P8
namespace P10
open Go.RowKit Kd P4 P5 P8
theorem Jc:∀(t:TV) (w:World),EC w w.heap.size t->XH (er t)=true->jA 126 #[.agg #[bA t.tag,bA t.txt,bA t.key,.slice t.sa.A t.sa.n t.sa.c,.slice t.sk.A t.sk.n t.sk.c]] w fun e w'=>e= .returned (.bool (iC (er t)))/\fA w w':=by
 intro t
 induction t using TV.ind with
 |h tag txt key sa attrs sk kids ih=>
  obtain⟨A,n,c⟩:=sa;obtain⟨f,n2,g⟩:=sk;intro w h m;have al:attrs.length=n:=h.al;have AH:Hid (kA.AA w w.heap.size A attrs):=Zh h.ah;have F:Hid (kids.length=n2):=Zh h.kl;have KH:Hid (kT.AA w w.heap.size f kids):=Zh h.kh;have KS:Hid (∀k∈kids,EC w w.heap.size k):=Zh h.ks;have i:Hid (fA w (w.alloc (.cells #[bA tag,bA txt,bA key,.slice A n c,.slice f n2 g] 81))):=Zh (Zb _ _);have j:Hid (TB (w.alloc (.cells #[bA tag,bA txt,bA key,.slice A n c,.slice f n2 g] 81)) w.heap.size (.mk tag txt key ⟨A,n,c⟩ attrs ⟨f,n2,g⟩ kids)):=Zh (TB.new w (.mk tag txt key ⟨A,n,c⟩ attrs ⟨f,n2,g⟩ kids));rw[er,XH] at m;simp only[Bool.and_eq_true,decide_eq_true_eq] at m;obtain⟨⟨⟨⟨⟨f1,f2⟩,f3⟩,f4⟩,f6⟩,f5⟩:=m;obtain⟨G,a8⟩:=Uv f4;have a7:n<=100000:=dA;have m1:tag.size<=maxLen:=TG;have m2:txt.size<=maxLen:=TG;have m3:key.size<=maxLen:=TG;have F5:Hid (∀k (H:k<kids.length),XH (er kids[k])=true):=Zh (fun k H=>by
   have V:k<(yA kids).length:=(by rw[nC];simpa using H);have:=BV V f5;simpa[nC] using this)
  have a9:n2<=100000:=(by have:=F.out;rw[nC,List.length_map] at f6;omega);have AL:=Zh al;have HW:=Zh G;clear al G f4 f5 f6;have IH:=Zh ih;have I:Hid (∀a,fA w a->tag.toList.isEmpty=true->jA 164 #[.agg #[bA tag,bA txt,bA key,.slice A n c,.slice f n2 g]] a fun e w'=>e= .returned (.bool (iC (er (.mk tag txt key ⟨A,n,c⟩ attrs ⟨f,n2,g⟩ kids))))/\fA a w'):=Zh (fun a B hE=>mayText_any (.mk tag txt key ⟨A,n,c⟩ attrs ⟨f,n2,g⟩ kids) a hE (h.on B) m2);have J:n<=c:=h.ac;have X:Hid (∀a,fA w a->tag.toList.isEmpty=false->jA 165 #[.agg #[bA tag,bA txt,bA key,.slice A n c,.slice f n2 g]] a fun e w'=>e= .returned (.bool (iC (er (.mk tag txt key ⟨A,n,c⟩ attrs ⟨f,n2,g⟩ kids))))/\fA a w'):=Zh (by
   intro a B P;have Y:Hid (kA.AA a a.heap.size A attrs):=Zh (AH.on B);have Z:Hid (kT.AA a a.heap.size f kids):=Zh (KH.on B);have a5:Hid (∀k∈kids,EC a a.heap.size k):=Zh (fun k H=>(KS k H).on B);clear h B i j AH KH KS I;have i:Hid (fA a (a.alloc (.cells #[bA tag,bA txt,bA key,.slice A n c,.slice f n2 g] 81))):=Zh (Zb _ _);have j:Hid (TB (a.alloc (.cells #[bA tag,bA txt,bA key,.slice A n c,.slice f n2 g] 81)) a.heap.size (.mk tag txt key ⟨A,n,c⟩ attrs ⟨f,n2,g⟩ kids)):=Zh (TB.new a (.mk tag txt key ⟨A,n,c⟩ attrs ⟨f,n2,g⟩ kids));obtain⟨bn,u⟩:=DA (P1.JC tag.data.toList);obtain⟨bk,v⟩:=DA (P1.yC key.data.toList);obtain⟨ba,x⟩:=DA (P3.kC attrs);obtain⟨bv,y⟩:=DA (P1.dC tag.data.toList);have HN:=Zh u;have HK:=Zh v;have HA:=Zh x;have HV:=Zh y;have E2:(yA kids).isEmpty=decide (n2=0):=(by rw[<-F.out,nC];cases kids<;>simp);have Q:Hid (iC (er (.mk tag txt key ⟨A,n,c⟩ attrs ⟨f,n2,g⟩ kids))=(bn&&bk&&ba&&txt.toList.isEmpty && !(bv && !decide (n2=0))&&gD (yA kids))):=Zh (by rw[er,iC,P,if_neg FA,u,v,x,y,E2]);clear ih u v x y E2;go_enter func165,ntmps165;go_upto_region 1 with fail;generalize a.alloc (.cells #[bA tag,bA txt,bA key,.slice A n c,.slice f n2 g] 81)=W at i j|-;have R:W.cell? ⟨a.heap.size,0,none⟩=some (bA tag):=j.c0;have a1:W.cell? ⟨a.heap.size,1,none⟩=some (bA txt):=j.c1;have a2:W.cell? ⟨a.heap.size,2,none⟩=some (bA key):=j.c2;have a3:W.cell? ⟨a.heap.size,3,none⟩=some (.slice A n c):=j.c3;have S:W.cell? ⟨a.heap.size,4,none⟩=some (.slice f n2 g):=j.c4;have l:Hid ((bn&&bk&&ba&&txt.toList.isEmpty && !(bv && !decide (n2=0)))=false->Ending.returned (.bool false)=Ending.returned (.bool (iC (er (.mk tag txt key ⟨A,n,c⟩ attrs ⟨f,n2,g⟩ kids))))):=Zh (fun e=>by rw[Q.out,e,Bool.false_and]);go_wp2_with fail;refine PA (P3.TJ tag _ HN m1) ?_;cases bn with
   |false=>
    go_wp2_with fail;go_ret;exact⟨l rfl,i⟩
   |true=>
   go_wp2_with fail;refine PA (P3.GH key _ HK m3) ?_;cases bk with
   |false=>
    go_wp2_with fail;go_ret;exact⟨l rfl,i⟩
   |true=>
   cases xE:txt.toList.isEmpty with
   |false=>
    go_wp2_with fail;go_ret;exact⟨l (by rw[xE];simp),i⟩
   |true=>
   go_wp2_with fail;refine(P3.ZO attrs A n c W AL dA J HW (eJ (Y.on i))).mono ?_;rintro e T ⟨rfl,q⟩;rw[HA.out];have r:=Zh (i.trans (q.mono i.size));have N2:=Zh (j.below q j.lt);clear q R a1 a2 a3 S;cases ba with
   |false=>
    go_wp2_with fail;go_ret;exact⟨l rfl,r⟩
   |true=>
   have R:T.cell? ⟨a.heap.size,0,none⟩=some (bA tag):=N2.c0;have S:T.cell? ⟨a.heap.size,4,none⟩=some (.slice f n2 g):=N2.c4;go_wp2_with fail;refine PA (P1.eN tag _) ?_;rw[HV.out];cases bv with
   |true=>
    by_cases K:n2=0
    ·subst K;go_wp2_with fail;go_ret;have e0:yA kids=[]:=(by rw[nC];have:=F.out;simpa using this);exact⟨by rw[Q.out,xE,e0];rfl,r⟩
    ·have qn:((n2:Int)==0)=false:=jB;go_wp2_with fail;go_ret;exact⟨l (by rw[xE];simp[K]),r⟩
   |false=>
    have L:Hid (iC (er (.mk tag txt key ⟨A,n,c⟩ attrs ⟨f,n2,g⟩ kids))=gD (yA kids)):=Zh (by rw[Q.out,xE];simp);clear l Q;go_wp2_with fail;go_loopw [36] (fun s wr=>∃(k:Nat),k<=n2/\s = aA k/\Hid (gD ((yA kids).take k)=true)/\Hid (fA a wr)) (fun s _=>n2-(intOf s).toNat)
    case atStart=>exact⟨0,by omega,rfl,Zh (by simp[gD]),r⟩
    case round=>
     obtain⟨k,H,rfl,HM,C⟩:=hrel;by_cases aa:k<n2
     ·have p:k<kids.length:=(IA F.out);have a6:k<(yA kids).length:=(by rw[nC];simpa using p);have M:(yA kids)[k]=er kids[k]:=(by simp[nC]);obtain⟨b,o,rfl,hb,g0,g1,g2,g3,g4⟩:=qK (Z.on C) p;have CK:Hid (∀D,fA wr D->jA 126 #[.agg #[bA kids[k].tag,bA kids[k].txt,bA kids[k].key,.slice kids[k].sa.A kids[k].sa.n kids[k].sa.c,.slice kids[k].sk.A kids[k].sk.n kids[k].sk.c]] D fun e w'=>e= .returned (.bool (iC (er kids[k])))/\fA D w'):=Zh (fun D hz=>IH kids[k] (List.getElem_mem p) D ((a5 _ (List.getElem_mem p)).on (C.trans (hz.mono C.size))) (F5 k p));obtain⟨mk,z⟩:=DA (iC (er kids[k]));rw[z] at CK;have N:Hid (iC (yA kids)[k]=mk):=Zh (by rw[M];exact z);have O:=Zh a6;clear z M;generalize kids[k]=d at g0 g1 g2 g3 g4 CK;go_upto_region 8 with fail;have E:Hid (TB (wr.alloc (.cells #[bA d.tag,bA d.txt,bA d.key,.slice d.sa.A d.sa.n d.sa.c,.slice d.sk.A d.sk.n d.sk.c] 81)) wr.heap.size d):=Zh (TB.new wr d);have U:Hid (fA wr (wr.alloc (.cells #[bA d.tag,bA d.txt,bA d.key,.slice d.sa.A d.sa.n d.sa.c,.slice d.sk.A d.sk.n d.sk.c] 81))):=Zh (Zb _ _);generalize wr.alloc (.cells #[bA d.tag,bA d.txt,bA d.key,.slice d.sa.A d.sa.n d.sa.c,.slice d.sk.A d.sk.n d.sk.c] 81)=wa at E U|-;clear g0 g1 g2 g3 g4;have R:=E.c0;have a1:=E.c1;have a2:=E.c2;have a3:=E.c3;have S:=E.c4;go_wp2_with fail;refine(CK wa U).mono ?_;rintro e w5 ⟨rfl,b5⟩;have B5:=Zh (C.trans ((U.trans (b5.mono U.size)).mono C.size));clear b5;cases mk with
      |false=>
       go_wp2_with fail;go_ret;exact⟨by rw[L.out,U4 O.out N.out];rfl,B5⟩
      |true=>
       go_wp2_with fail;go_roundw
       case rel=>exact⟨k+1,by omega,by go_num,Zh (iZ O HM N),B5⟩
       case measure=>simp[intOf];omega
     ·obtain rfl:k=n2:=dA
      go_wp2_with fail;go_ret;refine⟨?_,C⟩;have h1:=HM.out;rw[List.take_of_length_le (by have:=F.out;rw[nC];simp;omega)] at h1;rw[L.out,h1];rfl)
  clear h ih J;show jA 126 #[.agg #[bA tag,bA txt,bA key,.slice A n c,.slice f n2 g]] w _;go_enter func126,ntmps126;go_upto_region 1 with fail;generalize w.alloc (.cells #[bA tag,bA txt,bA key,.slice A n c,.slice f n2 g] 81)=W at i j|-;have R:W.cell? ⟨w.heap.size,0,none⟩=some (bA tag):=j.c0;have a1:W.cell? ⟨w.heap.size,1,none⟩=some (bA txt):=j.c1;have a2:W.cell? ⟨w.heap.size,2,none⟩=some (bA key):=j.c2;have a3:W.cell? ⟨w.heap.size,3,none⟩=some (.slice A n c):=j.c3;have S:W.cell? ⟨w.heap.size,4,none⟩=some (.slice f n2 g):=j.c4;cases P:tag.toList.isEmpty with
  |true=>
   go_wp2_with fail;refine(I W i P).mono ?_;rintro e T ⟨rfl,q⟩;have r:=Zh (i.trans (q.mono i.size));clear q;go_wp2_with fail;go_ret;exact⟨rfl,r⟩
  |false=>
   go_wp2_with fail;refine(X W i P).mono ?_;rintro e T ⟨rfl,q⟩;have r:=Zh (i.trans (q.mono i.size));clear q;go_wp2_with fail;go_ret;exact⟨rfl,r⟩
end P10
namespace P21
open P5 P8 P10
theorem Lr{l:List PT}{a:PT}(h:a∈l):countP a<=cB l:=by
 induction l with
 |nil=>cases h
 |cons b l ih=>
  rw[cB];rcases List.mem_cons.1 h with rfl|h
  ·omega
  ·have:=ih h;omega
theorem jb(t:PT):JG t=true->countP t<=100000->XH t=true:=by
 induction t using PT.ind with
 |h tag txt key attrs kids ih=>
  intro h e;rw[JG] at h;rw[countP] at e;simp only[Bool.and_eq_true,decide_eq_true_eq] at h;obtain⟨⟨⟨⟨j,l⟩,m⟩,b⟩,d⟩:=h;rw[XH];simp only[Bool.and_eq_true,decide_eq_true_eq];have n:=mQ kids;refine⟨⟨⟨⟨⟨by omega,by omega⟩,by omega⟩,?_⟩,by omega⟩,?_⟩
  ·unfold P3.dK at b;rw[Bool.and_eq_true,List.all_eq_true] at b;unfold KG;rw[Bool.and_eq_true,List.all_eq_true];obtain⟨f,g⟩:=b;simp only[decide_eq_true_eq] at f;refine⟨by simp only[decide_eq_true_eq];omega,fun a i=>?_⟩;have:=g a i;unfold P3.eM at this;simp only[Bool.and_eq_true,decide_eq_true_eq] at this|-;omega
  ·rw[kP,List.all_eq_true];rw[UO,List.all_eq_true] at d;exact fun k c=>ih k c (d k c) (IA (Lr c))
end P21
end Go.Proofs.YtimfajmknmlajaaGreatDoor
