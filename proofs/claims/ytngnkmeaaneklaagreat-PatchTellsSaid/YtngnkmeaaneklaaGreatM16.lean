/- A part of the proof. No condition. -/
import Derived.Deep.RegionHeld3
import Derived.Deep.DeepCutAuto
import Derived.Deep.LoopGhost
import Derived.Test.YtngnkmeaaneklaaGreatM1
import Derived.Test.YtngnkmeaaneklaaGreatM5
import Derived.Test.YtngnkmeaaneklaaGreatM8
import Derived.Test.YtngnkmeaaneklaaGreatM9
import Derived.Test.YtngnkmeaaneklaaGreatM10
import Derived.Test.YtngnkmeaaneklaaGreatM12
import Derived.Test.YtngnkmeaaneklaaGreatM13
set_option linter.unusedVariables false
set_option linter.unusedSimpArgs false
set_option maxRecDepth 100000
set_option maxHeartbeats 40000000
namespace Go.Proofs.YtngnkmeaaneklaaGreat
open Tryz
namespace P20
open Go.RowKit Kd P4 P5 P7 P11 P12 P13 P14 P16 P19
def bI(w:World)(B g q:Nat)(y:Rx)(v:Value)(rs:List RR)(r:Nat×Sg)(e:Ending)(w':World):Prop:=
 e= .returned (aA (r.1:Nat))/\∃y' v' rs',nC w B g q y v y' v' rs' w'/\(y'.d,rs'.map (·.r))=r.2
theorem bI.same{w w':World}{B g q:Nat}{y:Rx}{v:Value}{rs:List RR}{r:Nat×Sg}{k:Nat}(h:Wk w B g q y v rs)(hb:eA w w')(e:r=(k,(y.d,rs.map (·.r)))):bI w B g q y v rs r (.returned (aA (k:Nat))) w':=by
 subst e;exact⟨rfl,y,v,rs,nC.sC h hb,rfl⟩
theorem Wo{t:wA}{e vd:Bool}(h1:t.toList.isEmpty=e)(h2:P1.fC t.data.toList=vd):wB t=(e || vd):=by
 unfold wB;rw[h2,<-h1];congr 1;cases h:t.toList with
 |nil=>rfl
 |cons _ _=>rfl
def IJ(K:List Int)(id:Int)(i:Nat):Int:=if K.idxOf id<i then(K.drop (K.idxOf id+1)).headD 0 else 0
theorem zl{K:List Int}{id:Int}{i:Nat}(hd:K.Nodup)(hi:i+1<K.length):IJ K id (i+1)=if K[i]=id then K[i+1] else IJ K id i:=by
 have b:i<K.length:=cA;by_cases e:K[i]=id
 ·rw[if_pos e];have hx:K.idxOf id=i:=by
   subst e;have a:=List.idxOf_lt_length_of_mem (List.getElem_mem b);have c:=List.getElem_idxOf a;have key:=List.pairwise_iff_getElem.1 hd;rcases Nat.lt_trichotomy (K.idxOf K[i]) i with h|h|h
   ·exact absurd c (key _ _ a b h)
   ·exact h
   ·exact absurd c.symm (key _ _ b a h)
  unfold IJ;rw[hx,if_pos cA,List.drop_eq_getElem_cons hi];rfl
 ·rw[if_neg e];unfold IJ;by_cases d:K.idxOf id<i
  ·rw[if_pos d,if_pos cA]
  ·rw[if_neg d];by_cases g:K.idxOf id=i
   ·exfalso;apply e;have a:K.idxOf id<K.length:=cA;have f:=List.getElem_idxOf a;simp only[g] at f;exact f
   ·rw[if_neg cA]
theorem Xo{K:List Int}{id:Int}{i:Nat}(hi:¬i+1<K.length):IJ K id i=PG K id:=by
 unfold IJ PG;by_cases h:K.idxOf id<i
 ·rw[if_pos h]
 ·rw[if_neg h,List.drop_of_length_le cA];rfl
theorem Al{w5:World}{C:Nat}{A:jA}{n c:Nat}{ts:List WV}{S:Nat->Prop}(own:kQ.Own w5 C (.slice A n c) ts)(new:∀t∈ts,qB kQ w5 (fun b=>C<=b/\(Value.slice A n c).ownBlock≠some b) t)(hS:∀i,S i->i<C)(hA:qD w5 S):
 ∀w',gA S w5 w'->ZQ w' A n ts:=fun w' f=>by
 have g:=own.but f (fun i a d=>by have:=(own.lt a).1;have:=hS i d;omega);obtain⟨m,o,p,e,j,q,r,s,k⟩:=g.slice;injection e with v1 v2 v3;subst v1;subst v2;subst v3;exact⟨j,k,fun t l=>((new t l).but f (fun i a d=>by have:=a.1;have:=hS i d;omega) hA).ok⟩
theorem Yo(b:KA)(id:Int)(outer:Bool)(A:jA)(n c:Nat)(w:World){B g q:Nat}{y:Rx}{v:Value}{rs:List RR}(h:Wk w B g q y v rs)(hw:WF y.d)(hy:y.n<=80000)(hr:rs.length<=100000)(hh:kB.pA w w.heap.size A b)(hn:b.length=n)(zC:n<=c)(cC:c<=maxLen)(hl:n<=100000):
 fA 11 #[iA g,aA id,.slice A n c,.bool outer] w (bI w B g q y v rs (dD (y.d,rs.map (·.r)) id b outer)):=by
 have H:=Zh h;have U:=Zh hw;have CG:=Zh (Sk b A n c w hh hn zC cC hl);have az:=Zh (Q0 b);have b0:=Zh (lX b);obtain⟨pr,a⟩:=qA (dD (y.d,rs.map (·.r)) id b outer);have PR:Hid (dD (y.d,rs.map (·.r)) id b outer=pr):=Zh a;rw[a];unfold dD at a;obtain⟨gc,b3⟩:=qA ((SA b).2);have ab:=Zh b3;have aj:=Zh a;clear h hw hh hn a b3 zC cC hl;go_enter func11,ntmps11;go_wp2_with fail;refine CG.mono ?_;rintro e w1 ⟨A1,n1,c1,l,rfl,rfl,af,b1⟩;have O1:=Zh af;have B1:=Zh b1;clear af b1 CG;rw[ab.out];by_cases b4:gc=0
 ·subst b4;obtain⟨d4,d5,d6,bu,e1,e2,e3,e4,e5⟩:=O1.slice;injection bu with v1 v2 v3;subst v1;subst v2;subst v3;have bv:=Zh e5;have bw:=Zh e1;have bx:=Zh e3;have bz:n1<=120:=(uA b0.out);have CK:=Zh (Gf (SA b).1 A1 n1 c1 w1 e5 e1 cA (fun i hi=>by have:=DN (az i hi);omega));clear e1 e3 e4 e5;obtain⟨N,ak⟩:=qA (bD (SA b).1);rw[ak] at CK;have a1:=Zh ak;clear ak;go_wp2_with fail;refine CK.mono ?_;rintro e V ⟨rfl,b2⟩;have B2:=Zh (B1.trans (b2.mono B1.size));have b8:=Zh (bv.on b2);clear b2 CK;have H2:=Zh (H.below B2);by_cases X:N=0
  ·subst X;have c0:=H2.c0;have HA:Hid (EB y.l):=Zh U.VC;have hl:y.rs.length<=1000:=(by have:=U.xG;rw[show y.d.l=y.l from rfl,MD] at this;omega);have a:=aj.out;rw[ab.out,if_neg nA,a1.out,if_neg nA] at a;cases hi:lA y.l id with
   |false=>
    have CA:=Zh (yH id V hl hi H2.doc);have a2:find (y.d,rs.map (·.r)).1.l id=none:=by
     cases hf:find y.d.l id with
     |none=>rfl
     |some x=>have:=LH hf;rw[show y.d.l=y.l from rfl,hi] at this;cases this
    rw[a2] at a;have d:=Zh (bI.same (r:=pr) (k:=2) H B2 a.symm);clear a a2;go_wp2_with fail;refine zA CA ?_;go_wp2_with fail;go_ret;exact d
   |true=>
    obtain⟨k,hk,ba,hx⟩:=FC HA hi;have CA:=Zh (rB id V HA hl hk ba H2.doc);have ac:find (y.d,rs.map (·.r)).1.l id=some y.rs[k].nd:=hx;rw[ac] at a;simp only at a;have a3:=Zh ac;have a4:=(U.vM (x:=y.rs[k].nd) (iI ac).1);obtain⟨b9,o9,cl,Aa,na,ca,Ak,nk,N,bb,c3,c4,d0,L,c7,bc⟩:=H2.doc.bG hk;have al:=(H2.doc.nodes y.rs[k] (List.getElem_mem hk)).kids;rw[bc] at al;have am:Hid (kI.Own V B (.slice Ak nk N) y.rs[k].nd.kids):=Zh al;have an:Hid (y.d.l.length=y.rs.length):=Zh (by rw[show y.d.l=y.l from rfl,MD]);have hR:=U.room;have c8:y.rs.length<=y.R:=(by have:=U.len;rw[an.out] at this;exact this);have c9:k<y.rs.length:=hk;clear ac c7 bc al hx ba hi;generalize y.rs[k].nd=nd at L a a3 am a4;clear hk;have l0:=L.c0;have l1:=L.c1;have l2:=L.c2;have l3:=L.c3;have l4:=L.c4;have l5:=L.c5;have l6:=L.c6;have l7:=L.c7;have d2:=H2.doc.c2;have K:=Zh a;have bd:=Zh bb;clear L bb a d2;generalize y.rs.length=J at d0 bd c3 an c8 c9 hl;go_wp2_with fail;refine zA CA ?_;go_upto_region 11 with fail;have N1:Hid (LA (V.alloc (.cells (XA nd Aa na ca Ak nk N) 53)) V.heap.size nd Aa na ca Ak nk N):=Zh (LA.new V nd Aa na ca Ak nk N);have B3:Hid (Below V.heap.size V (V.alloc (.cells (XA nd Aa na ca Ak nk N) 53))):=Zh (Zb _ _);have O:Hid (V.heap.size<(V.alloc (.cells (XA nd Aa na ca Ak nk N) 53)).heap.size):=Zh DA;generalize ag:V.heap.size=F at N1 B3 O|-;rw[<-ag] at B3;generalize V.alloc (.cells (XA nd Aa na ca Ak nk N) 53)=W at B3 N1 O|-;have BW:=Zh (B2.trans (B3.mono B2.size));have cb:=Zh (H2.below B3);have cc:=Zh (am.below B3 Zl);have cd:=Zh (b8.on B3);clear l0 l1 l2 l3 l4 l5 l6 l7 d0 c0 b8 am c4 ag CA;have e2:=N1.c2;obtain⟨vd,ao⟩:=qA (P1.fC nd.tag.data.toList);obtain⟨et,ce⟩:=qA nd.tag.toList.isEmpty;have CV:=Zh (P1.gI nd.tag W);rw[ao] at CV;have cf:=Zh (Wo ce ao);clear ao;go_wp2_with fail;refine zA CV ?_;have a:=K.out;rw[cf.out] at a;clear CV K;by_cases ad:(et || vd)=true
    ·rw[if_pos ad] at a;have d:=Zh (bI.same (r:=pr) (k:=3) H BW a.symm);clear a;cases et<;>cases vd
     ·cases ad
     all_goals
      go_wp2_with fail;go_ret;exact d
    ·rw[if_neg ad] at a;have K:=Zh a;obtain⟨rfl,rfl⟩:et=false/\vd=false:=by cases et<;>cases vd<;>simp_all
     clear a ad;obtain⟨be,ap⟩:=EN a1;have OF:=Zh (Eh n1 (QB (SA b).1) (SA b).1 A1 n1 c1 W ap be.symm bw Zl cd (by assumption) bx cA);have bf:=Zh ap;have bg:Hid (∀x∈QB (SA b).1,BG x):=Zh (fun x hx=>Va (P17.O0 a1 x hx));obtain⟨bh,bi⟩:=RM a1;have P:=Zh bh;have aq:=Zh bi;have bj:=Zh (aL (QB (SA b).1));clear be ap bh bi;generalize QB (SA b).1=ws at OF bf bg P aq K bj;go_wp2_with fail;refine OF.mono ?_;rintro e D ⟨A2,n2,c2,ts,rfl,ar,a5,YD,b5⟩;have m:=Zh ar;have O2:=Zh a5;have W2:=Zh YD;have B5:=Zh b5;have bk:Hid (ws.length=n2):=Zh (by
      obtain⟨_,_,_,cg,e1,_⟩:=a5.slice;injection cg with v1 v2 v3;rw[<-ar,IB,List.length_map,e1,v2])
     have N5:Hid (LA D F nd Aa na ca Ak nk N):=Zh ((b5.block F O).trans N1);have H5:=Zh (cb.below b5);have bl:=Zh (cc.below b5 Zl);have G:=Zh (BW.trans (b5.mono BW.size));clear ar a5 YD b5 OF e2;have e1:=N5.c1;have a:=K.out;rw[bk.out] at a;have d7:n2<=120:=(by have:=bj.out;have:=bk.out;have:=aq.out;omega);have bm:id≠0:=U.tr.SF (LH a3);have M:Hid (∀f,Below D.heap.size D f->f.cell? (dA g 0)=some (iA q)/\f.cell? (dA q 0)=some (.slice (some (dA b9 o9)) J cl)/\f.cell? (dA q 2)=some (aA y.R)):=Zh (fun f Q=>⟨(H5.below Q).c0,by rw[<-bd.out];exact(H5.below Q).doc.c0,(H5.below Q).doc.c2⟩);have ae:Hid (∀f,Below D.heap.size D f->fA 31 #[.slice A2 n2 c2] f fun e w'=>e= .returned (aA (fB ws:Nat))/\Below f.heap.size f w'):=Zh (fun f Q=>by
      obtain⟨o1,o2,o3,o4,o5⟩:=Mo (O2.below Q Zl);have:=Zk ts f A2 n2 c2 o5 o1 (fun t ht=>((W2 t ht).qC Q).ok) (by rw[m.out];have:=aq.out;omega);rw[m.out] at this;exact this)
     have ah:Hid (∀f,Below D.heap.size D f->∀w',gA (MG g q v) f w'->ZQ w' A2 n2 ts):=Zh (fun f Q=>Al (C:=W.heap.size) (O2.below Q Zl) (fun t ht=>(W2 t ht).qC Q) (fun i hi=>by
      have hs:=BW.size;rcases hi with e|e|e
      ·have:=FA H.mA;omega
      ·have:=FA H.doc.mA;omega
      ·have:=(H.own.lt e).2;omega) (H5.below Q).eD)
     have a6:Hid (∀t∈ts,zF t):=Zh (Hq (by rw[m.out];exact bf) (by rw[m.out];exact bg));have ch:IntKind.i64.wrap ((y.R:Int)-(J:Int))=(y.R:Int)-(J:Int):=by
      have d8:y.R<=200:=hR;simp[IntKind.wrap,IntKind.bits,IntKind.signed];omega
     by_cases u:outer=true/\(nd.par=0\/1<n2)
     ·rw[if_pos u] at a;obtain⟨rfl,ci⟩:=u;have d:=Zh (bI.same (r:=pr) (k:=4) H G a.symm);clear a;by_cases Y:nd.par=0
      ·rw[Y] at e1;go_wp2_with fail;go_ret;exact d
      ·have cj:1<n2:=ci.resolve_left Y;have q1:=int_ne Y;have q2:decide ((1:Int)<(n2:Int))=true:=AA;go_wp2_with fail;go_ret;exact d
     rw[if_neg u] at a;rw[show(y.d,rs.map (·.r)).1.l.length=J from an.out] at a;cases outer with
     |false=>
      by_cases z:y.R<J+fB ws
      ·rw[if_pos (show(y.d,rs.map (·.r)).1.R<J+fB ws from z)] at a;have a7:decide ((y.R:Int)-(J:Int)<((fB ws:Nat):Int))=true:=AA;go_upto_region 17 with fail;have Z:=M D Ze;go_region_held3 (fun w'=>w'.cell? (dA g 0)=some (iA q)/\w'.cell? (dA q 0)=some (.slice (some (dA b9 o9)) J cl)/\w'.cell? (dA q 2)=some (aA y.R)) (first|go_keep|exact Z) ((first
        |(go_at_call 31;refine(ae _ sF).mono ?_;rintro e j ⟨rfl,I⟩;have E:Hid (Below D.heap.size D j):=Zh (by first|exact(PA Ze _).trans I|exact(Ze.drew).trans I|exact I);have Z:=M j E;clear I)
        |fail))
       have d:=Zh (bI.same (r:=pr) (k:=6) H (G.trans (E.mono G.size)) a.symm);go_wp2_with fail;go_ret;exact d
      ·rw[if_neg (show¬(y.d,rs.map (·.r)).1.R<J+fB ws from z),if_pos rfl] at a;have a7:decide ((y.R:Int)-(J:Int)<((fB ws:Nat):Int))=false:=AA;go_upto_region 17 with fail;have Z:=M D Ze;go_region_held3 (fun w'=>w'.cell? (dA g 0)=some (iA q)/\w'.cell? (dA q 0)=some (.slice (some (dA b9 o9)) J cl)/\w'.cell? (dA q 2)=some (aA y.R)) (first|go_keep|exact Z) ((first
        |(go_at_call 31;refine(ae _ sF).mono ?_;rintro e j ⟨rfl,I⟩;have E:Hid (Below D.heap.size D j):=Zh (by first|exact(PA Ze _).trans I|exact(Ze.drew).trans I|exact I);have Z:=M j E;clear I)
        |fail))
       have H7:=Zh (H5.below E);have au:=Zh (bl.below E Zl);have N7:Hid (LA j F nd Aa na ca Ak nk N):=Zh ((E.block F (FA N5)).trans N5);have a8:=Zh (G.trans (E.mono G.size));have a9:=Zh a;obtain⟨k1,k2⟩:=NI (s:=(y.d,rs.map (·.r))) U id;rw[show xA (y.d,rs.map (·.r)).1.l id=nd.kids from yJ a3.out] at k1 k2;have PP:JI j 0 B g q y v rs id nd.kids Ak nk N A2 n2 c2 ts:={
        wk:=H7
        wf:=U
        may:=yO U
        p0:=bm
        kids:=k1
        IC:=k2
        SB:=a4
        ids:=YH.Za H7 au
        want:=ah j E
        small:=a6
        nz:=by
         obtain⟨A5,n5,c5,cm,_,_,_,e4,_⟩:=au.slice;injection cm with v1 v2 v3;subst v1;subst v3;exact e4
        EG:=by rw[m.out];have:=P.out;omega
        num:=by rw[m.out];have:=P.out;omega
        len:=by rw[m.out];have:=P.out;omega}
       have RC:=Zh (qX ts (dL (oA ts)) Zl 0 B g q y v rs id nd.kids Ak nk N 0 A2 n2 c2 j PP);have e6:=N7.c6;clear PP k1 k2 a a7;go_wp2_with fail;refine RC.mono ?_;rintro e w8 ⟨rfl,y',v',av,wd,S⟩;rw[m.out] at S;have d:Hid (bI w B g q y v rs pr (.returned (aA ((0:Nat):Int))) w8):=Zh (by
        rw[<-a9.out];exact⟨rfl,y',v',av,nC.trans (nC.sC H a8) wd,S⟩)
       clear wd S RC;go_wp2_with fail;go_ret;exact d
     |true=>
      have Y:nd.par≠0:=fun e=>u ⟨rfl,.inl e⟩
      have cj:¬1<n2:=fun e=>u ⟨rfl,.inr e⟩
      have q1:=int_ne Y;have q2:decide ((1:Int)<(n2:Int))=false:=AA;by_cases z:y.R<J+fB ws
      ·rw[if_pos (show(y.d,rs.map (·.r)).1.R<J+fB ws from z)] at a;have a7:decide ((y.R:Int)-(J:Int)<((fB ws:Nat):Int))=true:=AA;go_upto_region 17 with fail;have Z:=M D Ze;go_region_held3 (fun w'=>w'.cell? (dA g 0)=some (iA q)/\w'.cell? (dA q 0)=some (.slice (some (dA b9 o9)) J cl)/\w'.cell? (dA q 2)=some (aA y.R)) (first|go_keep|exact Z) ((first
        |(go_at_call 31;refine(ae _ sF).mono ?_;rintro e j ⟨rfl,I⟩;have E:Hid (Below D.heap.size D j):=Zh (by first|exact(PA Ze _).trans I|exact(Ze.drew).trans I|exact I);have Z:=M j E;clear I)
        |fail))
       have d:=Zh (bI.same (r:=pr) (k:=6) H (G.trans (E.mono G.size)) a.symm);go_wp2_with fail;go_ret;exact d
      ·rw[if_neg (show¬(y.d,rs.map (·.r)).1.R<J+fB ws from z),if_neg nA] at a;have a7:decide ((y.R:Int)-(J:Int)<((fB ws:Nat):Int))=false:=AA;go_upto_region 17 with fail;have Z:=M D Ze;go_region_held3 (fun w'=>w'.cell? (dA g 0)=some (iA q)/\w'.cell? (dA q 0)=some (.slice (some (dA b9 o9)) J cl)/\w'.cell? (dA q 2)=some (aA y.R)) (first|go_keep|exact Z) ((first
        |(go_at_call 31;refine(ae _ sF).mono ?_;rintro e j ⟨rfl,I⟩;have E:Hid (Below D.heap.size D j):=Zh (by first|exact(PA Ze _).trans I|exact(Ze.drew).trans I|exact I);have Z:=M j E;clear I)
        |fail))
       have H7:=Zh (H5.below E);have au:=Zh (bl.below E Zl);have N7:Hid (LA j F nd Aa na ca Ak nk N):=Zh ((E.block F (FA N5)).trans N5);have a8:=Zh (G.trans (E.mono G.size));have a9:=Zh a;have cn:=H7.doc;have RK:Hid (∀f,Below j.heap.size j f->fA 33 #[iA q,aA nd.par] f fun e w'=>(∃A n c,e= .returned (.slice A n c)/\kI.Own f B (.slice A n c) (xA y.l nd.par)/\∀g,(Value.slice A n c).ownBlock=some g->cD q y g)/\f=w'):=Zh (fun f Q=>by
        have:=TT nd.par f HA (by have:=U.xG;rw[show y.d.l=y.l from rfl,MD] at this;omega) (H7.doc.below Q);exact this.mono (fun e w' h=>by obtain⟨⟨A,n,c,h1,h2,h3⟩,rfl⟩:=h;exact⟨⟨A,n,c,h1,h2,h3⟩,rfl⟩))
       have bn:Hid (∀f,Below j.heap.size j f->f.cell? (dA g 0)=some (iA q)/\f.cell? (dA F 1)=some (aA nd.par)):=Zh (fun f Q=>⟨(H7.below Q).c0,(Q.cell (p:=(dA F 1)) (FA N7)).trans N7.c1⟩);have co:Hid ((xA y.l nd.par).Nodup):=Zh (U.tr.IC nd.par);have cp:Hid ((xA y.l nd.par).length<=200):=Zh (VJ U nd.par);clear cn a a7 q2;go_upto_region 22 with fail;have Z:=bn j Ze;go_region_held3 (fun w'=>w'.cell? (dA g 0)=some (iA q)/\w'.cell? (dA F 1)=some (aA nd.par)) (first|go_keep|exact Z) ((first
        |(go_at_call 33;refine(RK _ sF).mono ?_;rintro e w9 ⟨⟨A6,n6,c6,rfl,bo,_⟩,rfl⟩;have cq:Hid (kI.Own j B (.slice A6 n6 c6) (xA y.l nd.par)):=Zh (by exact bo);clear bo)
        |fail))
       have cr:=cq.slice;obtain⟨d9,da,db,cs,bp,ct,cu,cv,bq⟩:=cr;injection cs with v1 v2 v3;subst v1;subst v2;subst v3;have aw:=Zh bp;have br:=Zh bq;have d3:n6<=200:=(uA cp.out);clear bp ct cu cv bq;go_wp2_with fail;go_loopw [16,17] (fun cw ax wr=>∃i:Nat,i<=n6/\ax = aA i/\cw = aA (IJ (xA y.l nd.par) id i)/\Hid (Below j.heap.size j wr)) (fun _ ax _=>n6-(intOf ax).toNat)
       case atStart=>exact⟨0,Nat.zero_le _,rfl,by simp[IJ],Zh sF⟩
       case round=>
        obtain⟨i,hi,rfl,rfl,HB⟩:=hrel;by_cases dc:i+1<n6
        ·have cx:i<(xA y.l nd.par).length:=(uA aw.out);have bs:i+1<(xA y.l nd.par).length:=(uA aw.out);have a0:=Zh (zl (id:=id) co bs);obtain⟨b6,o6,rfl,bt,x0⟩:=mD br cx;obtain⟨dd,de,ee,_,x1⟩:=mD br bs;injection ee with ee;injection ee with ee1 ee2 _;subst ee1;subst ee2;have x0:=(HB.cell bt).trans x0;have x1:=(HB.cell bt).trans x1;generalize (xA y.l nd.par)[i]=k0 at x0 a0;generalize (xA y.l nd.par)[i+1]=k1 at x1 a0;by_cases X:k0=id
         ·subst X;have T:=a0.out;rw[if_pos rfl] at T;have aa:=Zh T;clear T a0;go_wp2_with fail;go_roundw
          case rel=>exact⟨i+1,by omega,by go_num,by rw[aa.out],HB⟩
          case measure=>simp[intOf];omega
         ·have T:=a0.out;rw[if_neg X] at T;have aa:=Zh T;have q5:decide (k0=id)=false:=decide_eq_false X;clear T a0;go_wp2_with fail;go_roundw
          case rel=>exact⟨i+1,by omega,by go_num,by rw[aa.out],HB⟩
          case measure=>simp[intOf];omega
        ·have ai:IJ (xA y.l nd.par) id i=PG (xA y.l nd.par) id:=Xo (uA aw.out);rw[ai];have f1:=(bn wr HB).2;clear ai;go_upto_region 29 with fail;have AL:Below wr.heap.size wr (wr.alloc (.cells #[aA id] 3)):=Zb _ _;have ay:Hid (Below j.heap.size j (wr.alloc (.cells #[aA id] 3))):=Zh (HB.trans (AL.mono HB.size));have cy:Hid (Below D.heap.size D (wr.alloc (.cells #[aA id] 3))):=Zh (E.trans (ay.mono E.size));have cz:Hid (Below w.heap.size w (wr.alloc (.cells #[aA id] 3))):=Zh (a8.trans (ay.mono a8.size));have d1:Hid (kI.pA (wr.alloc (.cells #[aA id] 3)) (wr.heap.size+1) (some ⟨wr.heap.size,0,none⟩) [id]):=Zh (Kind.pA.lit (heap_alloc_new wr _) rfl);have PP:JI (wr.alloc (.cells #[aA id] 3)) 0 B g q y v rs nd.par [id] (some ⟨wr.heap.size,0,none⟩) 1 1 A2 n2 c2 ts:={
          wk:=H7.below ay
          wf:=U
          may:=yO U
          p0:=Y
          kids:=fun i hi=>by
           rw[List.mem_singleton] at hi;subst hi;exact⟨LH a3,NQ a3⟩
          IC:=by simp
          SB:=by simp
          ids:=⟨rfl,d1.more DA,fun _ b o e=>by
           injection e with e;injection e with e _ _;subst e;intro hf;have h1:=H.lt hf;have h2:=a8.size;have h3:=HB.size;omega⟩
          want:=ah _ cy
          small:=a6
          nz:=fun e=>by cases e
          EG:=by rw[m.out];have:=P.out;omega
          num:=by rw[m.out];have:=P.out;omega
          len:=by rw[m.out];have:=P.out;omega}
         have RC:=Zh (qX ts (dL (oA ts)) Zl 0 B g q y v rs nd.par [id] (some ⟨wr.heap.size,0,none⟩) 1 1 (PG (xA y.l nd.par) id) A2 n2 c2 (wr.alloc (.cells #[aA id] 3)) PP);clear PP AL;go_wp2_with fail;refine RC.mono ?_;rintro e w8 ⟨rfl,y',v',av,wd,S⟩;rw[m.out] at S;have d:Hid (bI w B g q y v rs pr (.returned (aA ((0:Nat):Int))) w8):=Zh (by
          rw[<-a9.out];exact⟨rfl,y',v',av,nC.trans (nC.sC H cz) wd,S⟩)
         clear wd S RC;go_wp2_with fail;go_ret;exact d
  ·have a:=aj.out;rw[ab.out,if_neg nA,a1.out,if_pos X] at a;have d:=Zh (bI.same (r:=pr) (k:=N) H B2 a.symm);have q1:=int_ne (show¬(N:Int)=0 by omega);clear a;go_wp2_with fail;go_ret;exact d
 ·have a:=aj.out;rw[ab.out,if_pos b4] at a;have d:=Zh (bI.same (r:=pr) (k:=gc) H B1 a.symm);have q1:=int_ne (show¬(gc:Int)=0 by omega);clear a;go_wp2_with fail;go_ret;exact d
end P20
end Go.Proofs.YtngnkmeaaneklaaGreat
