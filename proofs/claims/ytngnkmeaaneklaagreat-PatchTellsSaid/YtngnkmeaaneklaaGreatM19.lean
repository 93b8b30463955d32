/- A part of the proof. No condition. -/
import Derived.Deep.RegionHeld3
import Derived.Test.YtngnkmeaaneklaaGreatM1
import Derived.Test.YtngnkmeaaneklaaGreatM11
import Derived.Test.YtngnkmeaaneklaaGreatM14
import Derived.Test.YtngnkmeaaneklaaGreatM15
import Derived.Test.YtngnkmeaaneklaaGreatM16
import Derived.Test.YtngnkmeaaneklaaGreatM18
set_option linter.unusedVariables false
set_option linter.unusedSimpArgs false
set_option maxRecDepth 100000
set_option maxHeartbeats 40000000
namespace Go.Proofs.YtngnkmeaaneklaaGreat
open Tryz
namespace P20
open Go.RowKit Kd P4 P5 P7 P8 P11 P12 P13 P14 P16 P19 P21
def It:Prop:=∀w:World,fA 4 #[] w fun e w'=>e= .returned (.bool true)/\eA w w'
theorem Bl(s:Sg)(id:Int)(b:KA)(o:Bool):(dD s id b o).1<=13:=by
 unfold dD;have a:(SA b).2<=13:=by
  rcases PX (b.length+1) b [] with h|h|h
  ·unfold SA;rw[h];omega
  ·unfold SA;rw[h];decide
  ·unfold SA;rw[h];decide
 have c:=Jd (SA b).1
 repeat' split
 all_goals first|exact a|exact c|simp
theorem Oh(K:YQ)(w:World)(B g p:Nat)(x:Dx)(vd:Value)(rs:List RR)(id:Int)(b:KA)(A:jA)(n c:Nat)(outer:Bool)(hd:Dc w B p x)(hg:wE x.d)(hn:x.n<=80000)(hl:Lg w B g p vd rs)(hr:rs.length<=100000)
 (hb:∀w',gA (kF p x g vd) w w'->kB.pA w' w'.heap.size A b) (h1:b.length=n) (h2:n<=c) (h3:c<=maxLen) (h4:A=none->c=0) (h5:n<=100000):
 fA 10 #[iA g,iA p,aA id,.slice A n c,.bool outer] w (aI w B g p x vd rs id b outer):=by
 cases outer with
 |true=>
  have C:=Zh (K.outer w B g p x vd rs id b A n c hd hg hn hl hr hb h1 h2 h3 h4 h5);clear hd hg hn hl hr hb h1 h2 h3 h4 h5 K;go_enter func10,ntmps10;go_wp2_with fail;refine C.mono ?_;rintro e w' ⟨j,d,f,rfl,h⟩;generalize a:UA _=k;have i:=Zh a;clear a;go_wp2_with fail;go_ret;exact⟨j,d,f,by rw[i.out];rfl,h⟩
 |false=>
  have C:=Zh (K.inner w B g p x vd rs id b A n c hd hg hn hl hr hb h1 h2 h3 h4 h5);clear hd hg hn hl hr hb h1 h2 h3 h4 h5 K;go_enter func10,ntmps10;go_wp2_with fail;refine C.mono ?_;rintro e w' ⟨j,d,f,rfl,h⟩;generalize a:UA _=k;have i:=Zh a;clear a;go_wp2_with fail;go_ret;exact⟨j,d,f,by rw[i.out];rfl,h⟩
theorem Ut(K:YQ)(UP:It)(room focus id:Int)(ts:List TV)(A:jA)(m c:Nat)(b:KA)(A2:jA)(n2 c2:Nat)(outer:Bool)(w:World)(hm:ts.length=m)(hmc:m<=c)(cC:c<=maxLen)(hok:∀t∈ts,vC w w.heap.size t)(hfit:∀t∈ts,JJ t)(H:kT.pA w w.heap.size A ts)
 (H2:kB.pA w w.heap.size A2 b) (hb:b.length=n2) (hbc:n2<=c2) (hbm:c2<=maxLen) (hbz:A2=none->c2=0):
 fA 3 #[aA room,.slice A m c,aA focus,aA id,.slice A2 n2 c2,.bool outer] w fun e w'=>e= .returned (.bool true)/\eA w w':=by
 have HH:=Zh H;have HM:=Zh hm;have HF:=Zh hok;have HT:=Zh hfit;have R:=Zh (And.intro H2 (And.intro hb (And.intro hbc (And.intro hbm hbz))));have KK:=Zh K;have HU:=Zh UP;have b4:m<=maxLen:=cA;have b5:n2<=maxLen:=cA;clear H hm hok hfit H2 hb hbz K UP;go_enter func3,ntmps3;go_wp2_with fail;refine(HU w).mono ?_;rintro e w1 ⟨rfl,b1⟩;have B1:=Zh b1;clear b1 HU;go_wp2_with fail;refine(P9.fe ts 40 w1 A m c cA (HH.on B1) HM hmc cC (fun t ht=>(HF t ht).on B1) HT).mono ?_;rintro e w2 ⟨mm,rfl,S,ab,b2⟩;have B2:=Zh (B1.trans (b2.mono B1.size));clear b2;by_cases ap:40<mm
 ·have ac:decide ((40:Int)<(mm:Int))=true:=AA;go_wp2_with fail;go_ret;exact⟨rfl,B2⟩
 have ac:decide ((40:Int)<(mm:Int))=false:=AA;by_cases aq:3000<n2
 ·have ad:decide ((3000:Int)<(n2:Int))=true:=AA;go_wp2_with fail;go_ret;exact⟨rfl,B2⟩
 have ad:decide ((3000:Int)<(n2:Int))=false:=AA;obtain⟨a1,F⟩:=ab cA;rw[P8.IB] at a1 F;have CB:=Zh (zh room ts A m c w2 HM hmc cC (fun t ht=>(HF t ht).on B2) (HH.on B2) F cA);clear a1 F S ab;go_wp2_with fail;refine CB.mono ?_;rintro e w3 ⟨b3,hv⟩;have B3:=Zh (B2.trans (b3.mono B2.size));clear b3 CB;rcases hv with rfl|⟨p,q,x,y,rfl,hp,hxy,hgd,hxn⟩
 ·go_wp2_with fail;go_ret;exact⟨rfl,B3⟩
 have P3:=Zh hp;have E3:=Zh hxy;have G3:=Zh hgd;have z:=B2.size;clear hp hxy hgd ac ad ap;obtain⟨cf,a7⟩:=qA ((vE x.d focus).1);have a2:(vE y.d focus).1=cf:=(by rw[<-E3.out];exact a7);have CF:=Zh (qf focus w3 a7 P3.dc);obtain⟨ef,ae⟩:=qA (UA cf);rw[ae] at CF;go_wp2_with fail;refine CF.mono ?_;rintro e w4 ⟨rfl,l,d4,af⟩;have T:=Zh (P3.AI d4);have B4:=Zh (B3.trans ((oC.AB P3.dc d4).mono z));have RF:=Zh (Nk focus w4 a2 (by rw[<-E3.out];exact G3.1) T.rf);have U:=Zh af;clear d4 af CF a7 a2 ae P3;go_wp2_with fail;refine RF.mono ?_;rintro e w5 ⟨rfl,y5,d5,ag⟩;have V:=Zh (T.sK d5);have B5:=Zh (B4.trans ((d5.AB T.rf).mono z));have E5:Hid (l.d=y5.d):=Zh (by rw[U.out,ag,E3.out]);have G5:Hid (wE l.d):=Zh (by rw[U.out];exact uf G3 focus);have b0:l.n<=1000:=by
  have h1:l.d.n=(vE x.d focus).2.n:=(by rw[U.out]);have h2:(vE x.d focus).2.n=x.d.n:=(by unfold vE;split<;>rfl);have h3:l.d.n=l.n:=rfl;have h4:x.d.n=x.n:=rfl;omega
 clear d5 ag RF T U E3 G3 hxn;go_wp2_with fail;refine(jL (some (dA p 0)) w5).mono ?_;rintro e w6 ⟨rfl,a8⟩;have ar:w2.heap.size<=w5.heap.size:=(by have:=V.dc.base;have:=V.dc.lt (.inl rfl:UC p l p);omega);have L6:Hid (Lg w6 w2.heap.size w5.heap.size p (vA) []):=Zh (by rw[a8];exact Lg.new ar p);have b6:eA w5 w6:=(by rw[a8];exact Zb _ _);have P6:=Zh (V.below b6);have B6:=Zh (B5.trans (b6.mono B5.size));clear a8 b6 V;generalize w5.heap.size=g at L6|-;have CR:=Zh (Oh KK w6 w2.heap.size g p l _ [] id b A2 n2 c2 outer P6.dc G5 cA L6 DA (fun w' h=>R.1.on (B6.trans (h.AB (fun i _ u=>by
  rcases u with u|u
  ·have:=P6.dc.ge u;omega
  ·have:=L6.ge u;omega) B6.size))) R.2.1 R.2.2.1 R.2.2.2.1 R.2.2.2.2 cA)
 go_wp2_with fail;refine CR.mono ?_;rintro e E ⟨G,ah,o,rfl,ld,a3⟩;have P7:=Zh (P7.DG.Xb P6 L6 ld);have L7:=Zh ld.lg;have B7:=Zh (B6.trans ((ld.AB P6.dc L6).mono z));have R7:=Zh a3;clear ld a3 CR P6 L6;have RL:(o.map (·.r)).length<=250000:=by
  have h:=(YU (s:=(l.d,([]:List Rc))) G5.1 id b outer).2.2;have e:o.map (·.r)=(dD (l.d,([]:List Rc)) id b outer).2.2:=congrArg Prod.snd R7;rw[e];simpa using h
 rw[List.length_map] at RL;have ai:Hid (WF G.d/\G.n<=90000):=Zh (by
  have h:=YU (s:=(l.d,([]:List Rc))) G5.1 id b outer;have e:G.d=(dD (l.d,([]:List Rc)) id b outer).2.1:=congrArg Prod.fst R7;refine⟨by rw[e];exact h.1,?_⟩;have h2:G.d.n<=l.n+120:=(by rw[e];exact h.2.1);have h3:G.d.n=G.n:=rfl;omega)
 have RC:=Bl (l.d,([]:List Rc)) id b outer;obtain⟨rr,I⟩:=qA (dD (l.d,([]:List Rc)) id b outer);have a4:dD (y5.d,([]:List Rc)) id b outer=rr:=(by rw[<-E5.out];exact I);have aj:Hid ((G.d,o.map (·.r))=rr.2):=Zh (by rw[<-I];exact R7);rw[I] at RC;rw[show dD (l.d,List.map (fun x=>x.r) ([]:List RR)) id b outer=rr from I];clear R7;have W:Hid ((E.alloc (.cells #[iA q,vA] 40)).heap[E.heap.size]? = some (.cells #[iA q,vA] 40 (0,0))):=Zh (heap_alloc_new E _);have J:Hid (eA E (E.alloc (.cells #[iA q,vA] 40))):=Zh (Zb _ _);have ak:w2.heap.size<=E.heap.size:=(by have:=P7.dc.base;have:=P7.dc.lt (.inl rfl:UC p G p);omega);generalize al:UA (rr.1:Int)=ev;have CC:Hid (∀f:World,fA 12 #[ev] f fun e w'=>e= .returned (aA (rr.1:Nat))/\f=w'):=Zh (fun f=>by rw[<-al];exact uh (rr.1:Int) cA cA f);clear al;go_upto_region 14 with fail;generalize E.alloc (.cells #[iA q,vA] 40)=w8 at W J|-;have P8:=Zh (P7.below J);have L8:=Zh (L7.below J);have B8:=Zh (B7.trans (J.mono B7.size));have PL:Hid ((∀i,UC p G i->i<E.heap.size)/\∀i,nG g ah i->i<E.heap.size):=Zh ⟨fun i u=>P7.dc.lt u,fun i u=>L7.lt u⟩;obtain⟨gw,am⟩:=qA E.heap.size;rw[am] at W PL ak|-;have L:Hid (Wk w8 w2.heap.size gw q y5 (vA) []):=Zh ⟨W,ak,P8.rf,Kind.Own.nil _ _ _,fun a ha=>by cases ha⟩;have M:=Zh (Yo b id outer A2 n2 c2 w8 L (by rw[<-E5.out];exact G5.1) (by have h1:y5.n=l.n:=congrArg D.n E5.symm;omega) DA (R.1.on B8) R.2.1 R.2.2.1 R.2.2.2.1 cA);rw[show dD (y5.d,List.map (fun x=>x.r) ([]:List RR)) id b outer=rr from a4] at M;clear am I a4 P7 L7 B7 J W;go_wp2_with fail;refine M.mono ?_;rintro e j ⟨rfl,y9,v9,an,X,N⟩;have D9:Hid (Dc j w2.heap.size p G):=Zh (P8.dc.but X.but (fun i u B=>by
  rcases B with B|B|B
  ·have:=PL.1 i u;omega
  ·exact P8.ap i u (B▸ .inl rfl)
  ·cases B) L.eD)
 have L9:Hid (Lg j w2.heap.size g p ah o):=Zh (L8.but X.but (fun i u B=>by
  rcases B with B|B|B
  ·have:=PL.2 i u;omega
  ·exact L8.wV P8.rf u (B▸ .inl rfl)
  ·cases B) L.eD)
 have ao:=Zh X.wk.doc;have B9:=Zh (B8.trans ((nC.AB L X).mono z));have O:=Zh X.wk.zI;have a9:=Zh N;obtain⟨Av,nv,cv,rfl,e1,e2,e3,e4,e5⟩:=X.wk.own.slice;have aa:=Zh (And.intro e1 e5);have s1:=IA 1 X.wk.mA;have au:gw<j.heap.size:=FA X.wk.mA;clear X N M L P8 L8 B8 e1 e2 e3 e4 e5;have P:Hid (∀f,eA j f->f.cell? (dA gw 1)=some (.slice Av nv cv)):=Zh (fun f h=>(h.cell au).trans s1);have SK:=P j Ze;have d:Hid (eA j j):=Zh Ze;have XD:G.d=y9.d:=(congrArg Prod.fst aj).trans (congrArg Prod.fst a9).symm;have XR:o.map (·.r)=an.map (·.r):=(congrArg Prod.snd aj).trans (congrArg Prod.snd a9).symm;have av:Hid (∀f,eA j f->fA 14 #[iA g] f (Yb f o)):=Zh (fun f h=>DU f cA (L9.below h));have aw:Hid (∀f,eA j f->fA 15 #[iA p,iA q] f fun e w'=>e= .returned (aA 1)/\eA f w'):=Zh (fun f h=>UT f ai.1 (uA ai.2) XD (D9.below h) (ao.below h));have ax:Hid (∀f,eA j f->∀(A1:jA) (n1 c1:Nat) (k:List RR),kR.Own f j.heap.size (.slice A1 n1 c1) k->k.map (·.r)=o.map (·.r)->(∀a∈k,WH f a)->fA 13 #[.slice A1 n1 c1,.slice Av nv cv] f fun e w'=>e= .returned (.bool true)/\eA f w'):=Zh (fun f h A1 n1 c1 k ho hm hr=>by
  obtain⟨_,_,_,hv,ay,_,_,_,az⟩:=ho.slice;injection hv with e1 e2 e3;subst e1;subst e2;subst e3;have hn:nv=n1:=by
   have h1:=congrArg List.length (hm.trans XR);rw[List.length_map,List.length_map] at h1;have:=aa.1;omega
  subst hn;refine Rk k an A1 Av nv c1 cv f ay (hm.trans XR) (by have h1:=congrArg List.length hm;rw[List.length_map,List.length_map] at h1;omega) az (aa.2.on h) (fun a ha=>⟨(hr a ha).mB.len,(hr a ha).SB,(hr a ha).mB.holds⟩) (fun a ha=>⟨(O a ha).mB.len,((O a ha).mB.below h).holds⟩))
 clear D9 L9 ao a9 O aa;go_upto_region 15 with fail;go_region_held3 (fun w'=>w'.cell? (dA gw 1)=some (.slice Av nv cv)) (first|go_keep|exact SK) ((first
  |(go_at_call 12;refine zA (CC _) ?_)
  |(go_at_call 14;refine(av _ (by first|exact d|exact PA d _|exact d.drew)).mono ?_;rintro e w10 ⟨A1,n1,c1,k,rfl,a5,S,a6,Y⟩;have C:eA j w10:=(by first|exact d.trans (Y.mono d.size)|exact(PA d _).trans (Y.mono (PA d _).size)|exact(d.drew).trans (Y.mono (d.drew).size));have d:=Zh C;have Q:Hid (kR.Own w10 j.heap.size (.slice A1 n1 c1) k/\k.map (·.r)=o.map (·.r)/\∀a∈k,WH w10 a):=Zh ⟨a5.dE (by first|exact Ze.size|exact C.size|(have:=C.size;simp;done)),S,a6⟩;have SK:=P w10 C;clear a5 S a6 Y C)
  |(go_at_call 13;refine(ax _ (by first|exact d|exact PA d _|exact d.drew) A1 n1 c1 k (by first|exact Q.1|exact Q.1.drewN _|exact Q.1.drew) Q.2.1 (by exact Q.2.2)).mono ?_;rintro e w11 ⟨rfl,Z⟩;have C:eA j w11:=(by first|exact d.trans (Z.mono d.size)|exact(PA d _).trans (Z.mono (PA d _).size)|exact(d.drew).trans (Z.mono (d.drew).size));have d:=Zh C;have SK:=P w11 C;clear Z C)
  |(go_at_call 15;refine(aw _ (by first|exact d|exact PA d _|exact d.drew)).mono ?_;rintro e w12 ⟨rfl,a0⟩;have C:eA j w12:=(by first|exact d.trans (a0.mono d.size)|exact(PA d _).trans (a0.mono (PA d _).size)|exact(d.drew).trans (a0.mono (d.drew).size));have d:=Zh C;have SK:=P w12 C;clear a0 C)
  |fail))
 have BZ:=Zh (B9.trans (d.mono B9.size));clear SK P d;go_wp2_with fail;go_ret;exact⟨rfl,BZ⟩
end P20
end Go.Proofs.YtngnkmeaaneklaaGreat
