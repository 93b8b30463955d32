/- A part of the proof. No condition. -/
import Derived.Deep.DrawnRows
import Derived.Deep.DeepCutAuto
import Derived.Deep.CutBlock
import Derived.Deep.RegionHeld3
import Derived.Test.YtngnkmeaaneklaaGreatM1
import Derived.Test.YtngnkmeaaneklaaGreatM4
import Derived.Test.YtngnkmeaaneklaaGreatM5
import Derived.Test.YtngnkmeaaneklaaGreatM6
import Derived.Test.YtngnkmeaaneklaaGreatM7
import Derived.Test.YtngnkmeaaneklaaGreatM8
import Derived.Test.YtngnkmeaaneklaaGreatM9
set_option linter.unusedVariables false
set_option linter.unusedSimpArgs false
set_option maxRecDepth 100000
set_option maxHeartbeats 40000000
namespace Go.Proofs.YtngnkmeaaneklaaGreat
open Tryz
namespace P5
open Go.RowKit Kd P4
variable{B q:Nat}{y:Rx}
theorem Ao(r:Rc)(A:jA)(n c:Nat)(w:World)(ha:EB y.l)(hl:y.rs.length<=1000)(hi:lA y.l r.id=true)(hp:lA y.l r.par=true)(hq:(r.rA != 0)=true)(hb:lA y.l r.rA=true)(h1:(r.id==1)=false)(hwf:WF y.d)(hnk:wB (MA y.l r.par)=false)(hin:inside y.l r.par r.id=false)(hb0:r.rA≠0)(hpp:(yA y.l r.rA != r.par)=false)(hbi:(r.rA==r.id)=false)(h:Rf w B q y):fA 90 #[iA q,.agg (JA r A n c)] w (gC w B q y 0 {y.d with l:=OC y.l r.id r.par r.rA}):=by
 have B1:Hid (eA w (w.alloc (.cells (JA r A n c) 87))):=Zh (Zb _ _);have N1:=Zh (bB.new w r A n c);have H0:=Zh h;have HA:=Zh ha;obtain⟨ki,ci,bk,_⟩:=FC ha hi;have bl:=Zh bk;obtain⟨kb,cj,bm,_⟩:=FC ha hb;have bn:=Zh bm;have bo:=Zh hb0;clear h hb0;go_enter func90,ntmps90;go_upto_region 1 with fail;generalize w.alloc (.cells (JA r A n c) 87)=W at B1 N1|-;have H:=Zh (H0.below B1);have b1:=N1.c1;have b2:=N1.c2;have b3:=N1.c3;obtain⟨k,hk,hy,_⟩:=FC HA hp;obtain⟨b,o,cl,A1,nn,ca,A2,n2,ac,hv,a8,hb,d0,L,I,E⟩:=H.bG hk;have db:=Zh I;have dc:=Zh E;have HY:=Zh hy;obtain⟨nl,K⟩:=qA y.rs.length;have dd:=Zh K;have de:k<nl:=cA;have df:nl<=1000:=cA;rw[K] at d0 a8;obtain⟨m,hm⟩:=qA (y.rs[k].nd);have HM:=Zh hm;rw[hm] at L;have l0:=L.c0;have l1:=L.c1;have l2:=L.c2;have l3:=L.c3;have l4:=L.c4;have l5:=L.c5;have l6:=L.c6;have l7:=L.c7;have d6:=FA H.mA;have bp:∀g,(Value.slice A2 n2 ac).ownBlock=some g->cD q y g:=fun g hg=> .inr (.inr ⟨_,List.getElem_mem hk,by rw[E];exact hg⟩)
 have dg:=Zh bp;have hR:=H.nodes _ (List.getElem_mem hk);rw[show y.rs[k]=(⟨⟨A1,nn,ca⟩,⟨A2,n2,ac⟩,m⟩:Rn) by cases e:y.rs[k];rw[e] at I E hm;cases I;cases E;cases hm;rfl] at hR;have HR:=Zh hR;clear hv I E K hm L bp hR;have bq:Hid (wB m.tag=false):=Zh (by rw[<-HM.out,<-(IG HA.out hk HY.out).1];exact hnk);clear hnk;have ck:=Zh hp;have br:=Zh hi;have b8:=Zh hwf;clear hwf;go_wp2_with fail;refine zA (rB r.id W HA hl ci bl H) ?_;go_wp2_with fail;refine zA (rB r.par W HA hl hk HY H) ?_;go_wp2_with fail;refine(rB r.rA W HA hl cj bn H).mono ?_;rintro e w' ⟨rfl,rfl⟩;go_upto_region 5 with fail;go_cut [5] (fun s5 wx=>s5 = iA W.heap.size/\Hid (eA W wx)/\Hid (LA wx W.heap.size m A1 nn ca A2 n2 ac))
 case first=>
  go_region_held3 (fun w'=>w'.cell? (dA q 0)=some (.slice (some (dA b o)) nl cl)/\w'.cell? ⟨b,o+k*8,none⟩=some (aA m.id)/\w'.cell? ⟨b,o+k*8+1,none⟩=some (aA m.par)/\w'.cell? ⟨b,o+k*8+2,none⟩=some (bA m.tag)/\w'.cell? ⟨b,o+k*8+3,none⟩=some (bA m.txt)/\w'.cell? ⟨b,o+k*8+4,none⟩=some (bA m.key)/\w'.cell? ⟨b,o+k*8+5,none⟩=some (.slice A1 nn ca)/\w'.cell? ⟨b,o+k*8+6,none⟩=some (.slice A2 n2 ac)/\w'.cell? ⟨b,o+k*8+7,none⟩=some (aA m.note)/\w'.cell? ⟨w.heap.size,2,none⟩=some (aA r.par)) (go_keep) ((first
   |(go_at_call 26;refine zA (rB r.par _ HA hl hk HY (by exact H.drewN _)) ?_)
   |(go_at_call 26;refine zA (rB r.par _ HA hl hk HY (by exact(H.alloc _).drewN _)) ?_)
   |fail))
  all_goals
   go_wp2_with fail;go_meet;exact⟨rfl,Zh ((Zb _ _).drew),Zh (heap_drew (LA.new W m A1 nn ca A2 n2 ac))⟩
 case rest=>
  obtain⟨rfl,B2,N2⟩:=hcut;obtain⟨w2,rfl⟩:∃w2,w2=wc:=⟨_,rfl⟩;clear l0 l1 l2 l3 l4 l5 l6 l7 d0 b1 b2 b3;have a2:=N2.c2;have b9:=Zh (B1.trans (B2.mono B1.size));have H2:=Zh (H0.below b9);have R2:=Zh (N1.below B2 N1.lt);have cm:W.heap.size<w2.heap.size:=N2.lt;go_wp2_with fail;refine zA (P1.gI m.tag w2) ?_;have tE:m.tag.toList.isEmpty=false:=by
   cases e:m.tag.toList.isEmpty with
   |false=>rfl
   |true=>
    have:=bq.out;unfold wB at this;rw[List.isEmpty_iff] at e;simp[e] at this
  have hv:P1.fC m.tag.data.toList=false:=by
   cases e:P1.fC m.tag.data.toList with
   |false=>rfl
   |true=>
    have:=bq.out;unfold wB at this;simp[e] at this
  rw[hv];have c1:=R2.c1;have c2:=R2.c2;have c3:=R2.c3;have QP:Hid (∀k,fA 118 #[iA q,aA r.rA] (w2.drewN k) fun e w'=>e= .returned (aA (yA y.l r.rA))/\∃m,w'=w2.drewN m):=Zh (fun k=>(xN r.rA _ HA hl (H2.drewN k)).mono fun _ _ ⟨he,hw⟩=>⟨he,k,hw.symm⟩);go_wp2_with fail;go_quiet ((first|(go_at_call 118;exact QP _)));go_wp2_with fail;have BN:=Zh (PA b9 nq);refine(fM r.par r.id _ HA hl (by exact H2.drewN nq)).mono ?_;rintro e w5 ⟨rfl,b5⟩;have B5:=Zh (BN.trans (b5.mono (by exact b9.size)));have N5:Hid (LA w5 W.heap.size m A1 nn ca A2 n2 ac):=Zh (LA.below (w:=w2.drewN nq) N2 b5 cm);have R5:Hid (bB w5 w.heap.size r A n c):=Zh (bB.below (w:=w2.drewN nq) R2 b5 R2.lt);have dh:w2.heap.size<=w5.heap.size:=b5.size;have di:w.heap.size<W.heap.size:=N1.lt;rw[hin];clear b5 c1 c2 c3 a2;have e1:=R5.c1;go_wp2_with fail;refine(zS r.id w5 b8 br (H0.below B5)).mono ?_;rintro e w6 ⟨rfl,v6,cn,r6,l6⟩;obtain⟨J,ax⟩:∃J:Rx,J = {y with v:=v6,rs:=cn}:=⟨_,rfl⟩;have L6:Hid (J.l=QA y.l r.id):=Zh (by rw[ax];exact l6);have F6:Hid (J.n=y.n/\J.R=y.R/\J.foc=y.foc):=Zh (by rw[ax];exact⟨rfl,rfl,rfl⟩);rw[<-ax] at r6;have ba:Hid (¬cD q J W.heap.size):=Zh (fun hf=>by
   rcases r6.ft _ hf with e|e
   ·have:=H0.lt e;omega
   ·omega)
  have dj:Hid (¬cD q J w.heap.size):=Zh (fun hf=>by
   rcases r6.ft _ hf with e|e
   ·have:=H0.lt e;omega
   ·omega)
  have co:q<w.heap.size:=FA H0.mA;have M:=Zh (N5.eJ r6.but cA);have R6:=Zh (R5.eJ r6.but cA);have D6:=Zh ((LB.sC H0 B5).trans r6);have a9:Hid (EB J.l):=Zh (by rw[L6.out];exact DI HA (hH _ _));have ay:J.rs.length<=1000:=by
   have:=KI (hH y.l r.id);rw[<-L6.out,MD,MD] at this;omega
  obtain⟨k6,P,ak,_⟩:=FC a9 (i:=r.par) (by rw[L6.out,eG];exact ck);have bb:=Zh ak;have bs:Hid (xA (QA y.l r.id) r.par=J.rs[k6].nd.kids):=Zh (by rw[<-L6.out];exact(IG a9 P ak).2.2);have cp:J.rs[k6].nd.kids.length<=1000:=(by have:=(ZO b8 r.id r.par).1;rw[show y.d.l=y.l from rfl,bs.out] at this;exact this);have cq:Hid ((0:Int)∉J.rs[k6].nd.kids):=Zh (by have:=(ZO b8 r.id r.par).2;rw[show y.d.l=y.l from rfl,bs.out] at this;exact this);clear r6 l6 ax ak e1;obtain⟨b,o,cl,Ap,np,F,N,n2p,G,hv,a8,hb,d0,L,I,E⟩:=D6.rf.bG P;have bt:=Zh (D6.rf.VQ hv);have bu:=Zh I;have bv:=Zh E;obtain⟨nl,K⟩:=qA J.rs.length;have d7:k6<nl:=cA;have d8:nl<=1000:=cA;rw[K] at d0 a8;obtain⟨d,hm⟩:=qA (J.rs[k6].nd);have az:=Zh hm;rw[hm] at L;have l0:=L.c0;have l1:=L.c1;have l2:=L.c2;have l3:=L.c3;have l4:=L.c4;have l5:=L.c5;have l6:=L.c6;have l7:=L.c7;rw[hm] at cp cq;clear hv I E K hm L;have bw:∀(V:World) (i j:Nat) (v:Value),(V.setCell ⟨W.heap.size,i,none⟩ v).cell? (dA q j)=V.cell? (dA q j):=fun V i j v=>World.cell?_setCell_far _ _ _ _ (by show W.heap.size≠q;omega)
  have b6:∀(V:World) (i j:Nat) (v:Value),(V.setCell ⟨W.heap.size,i,none⟩ v).cell? (dA b j)=V.cell? (dA b j):=fun V i j v=>World.cell?_setCell_far _ _ _ _ (by show W.heap.size≠b;rintro rfl;exact ba bt)
  have b7:∀(V:World) (i j:Nat) (v:Value),(V.setCell ⟨W.heap.size,i,none⟩ v).cell? ⟨w.heap.size,j,none⟩=V.cell? ⟨w.heap.size,j,none⟩:=fun V i j v=>World.cell?_setCell_far _ _ _ _ (by show W.heap.size≠w.heap.size;omega)
  have p2:=R6.c2;have u0:=M.c0;have z0:=M.frozen 0;have u1:=M.c1;have z1:=M.frozen 1;have u2:=M.c2;have z2:=M.frozen 2;have u3:=M.c3;have z3:=M.frozen 3;have u4:=M.c4;have z4:=M.frozen 4;have u5:=M.c5;have z5:=M.frozen 5;have u6:=M.c6;have z6:=M.frozen 6;have u7:=M.c7;have z7:=M.frozen 7;go_upto_region 15 with fail;go_region_held3 (fun w'=>w'.cell? (dA q 0)=some (.slice (some (dA b o)) nl cl)/\w'.cell? ⟨b,o+k6*8,none⟩=some (aA d.id)/\w'.cell? ⟨b,o+k6*8+1,none⟩=some (aA d.par)/\w'.cell? ⟨b,o+k6*8+2,none⟩=some (bA d.tag)/\w'.cell? ⟨b,o+k6*8+3,none⟩=some (bA d.txt)/\w'.cell? ⟨b,o+k6*8+4,none⟩=some (bA d.key)/\w'.cell? ⟨b,o+k6*8+5,none⟩=some (.slice Ap np F)/\w'.cell? ⟨b,o+k6*8+6,none⟩=some (.slice N n2p G)/\w'.cell? ⟨b,o+k6*8+7,none⟩=some (aA d.note)/\w'.cell? ⟨w.heap.size,2,none⟩=some (aA r.par)) (first|go_keep|(simp only[World.cell?_drew,bw,b6,b7];exact⟨d0,l0,l1,l2,l3,l4,l5,l6,l7,p2⟩)) ((first
   |(go_at_call 26;refine zA (rB r.par _ a9 ay P bb (by exact D6.rf.drewN _)) ?_)
   |(go_at_call 26;refine(rB r.par _ a9 ay P bb (by exact(D6.rf.alloc _).drewN _)).mono ?_;rintro e w3 ⟨rfl,rfl⟩)
   |fail))
  have N7:Hid (LA (((((((((w6.setCell ⟨W.heap.size,0,none⟩ (aA d.id)).setCell ⟨W.heap.size,1,none⟩ (aA d.par)).setCell ⟨W.heap.size,2,none⟩ (bA d.tag)).setCell ⟨W.heap.size,3,none⟩ (bA d.txt)).setCell ⟨W.heap.size,4,none⟩ (bA d.key)).setCell ⟨W.heap.size,5,none⟩ (.slice Ap np F)).setCell ⟨W.heap.size,6,none⟩ (.slice N n2p G)).setCell ⟨W.heap.size,7,none⟩ (aA d.note)).drew) W.heap.size d Ap np F N n2p G):=Zh (heap_drew (M.uV (nd':=d)));have D7:Hid (LB w B q y J (((((((((w6.setCell ⟨W.heap.size,0,none⟩ (aA d.id)).setCell ⟨W.heap.size,1,none⟩ (aA d.par)).setCell ⟨W.heap.size,2,none⟩ (bA d.tag)).setCell ⟨W.heap.size,3,none⟩ (bA d.txt)).setCell ⟨W.heap.size,4,none⟩ (bA d.key)).setCell ⟨W.heap.size,5,none⟩ (.slice Ap np F)).setCell ⟨W.heap.size,6,none⟩ (.slice N n2p G)).setCell ⟨W.heap.size,7,none⟩ (aA d.note)).drew)):=Zh (D6.S0 (g:=W.heap.size) cA ba M.eD 0 [aA d.id,aA d.par,bA d.tag,bA d.txt,bA d.key,.slice Ap np F,.slice N n2p G,aA d.note]);have R7:Hid (bB (((((((((w6.setCell ⟨W.heap.size,0,none⟩ (aA d.id)).setCell ⟨W.heap.size,1,none⟩ (aA d.par)).setCell ⟨W.heap.size,2,none⟩ (bA d.tag)).setCell ⟨W.heap.size,3,none⟩ (bA d.txt)).setCell ⟨W.heap.size,4,none⟩ (bA d.key)).setCell ⟨W.heap.size,5,none⟩ (.slice Ap np F)).setCell ⟨W.heap.size,6,none⟩ (.slice N n2p G)).setCell ⟨W.heap.size,7,none⟩ (aA d.note)).drew) w.heap.size r A n c):=Zh (R6.eJ (S:=fun i=>i=W.heap.size) (gA.setCells (S:=fun i=>i=W.heap.size) (a:=w6) (g:=W.heap.size) (gA.refl _ _) (fun _=>rfl) 0 [aA d.id,aA d.par,bA d.tag,bA d.txt,bA d.key,.slice Ap np F,.slice N n2p G,aA d.note]).drew cA);generalize ((((((((w6.setCell ⟨W.heap.size,0,none⟩ (aA d.id)).setCell ⟨W.heap.size,1,none⟩ (aA d.par)).setCell ⟨W.heap.size,2,none⟩ (bA d.tag)).setCell ⟨W.heap.size,3,none⟩ (bA d.txt)).setCell ⟨W.heap.size,4,none⟩ (bA d.key)).setCell ⟨W.heap.size,5,none⟩ (.slice Ap np F)).setCell ⟨W.heap.size,6,none⟩ (.slice N n2p G)).setCell ⟨W.heap.size,7,none⟩ (aA d.note)).drew=u at N7 D7 R7|-;clear bw b6 b7 d0 l0 l1 l2 l3 l4 l5 l6 l7 p2 u0 u1 u2 u3 u4 u5 u6 u7 z0 z1 z2 z3 z4 z5 z6 z7 a8 hb M R6 D6;have bx:kI.Own u B (.slice N n2p G) d.kids:=(by have:=(D7.rf.nodes _ (List.getElem_mem P)).kids;rw[bv.out,az.out] at this;exact this);obtain⟨g1,g2,g3,g4,g5⟩:=qG bx rfl;have HK:=Zh g5;have HN:=Zh g1;have d9:n2p<=1000:=cA;have bz:W.heap.size<u.heap.size:=N7.lt;have c0:w.heap.size<u.heap.size:=cA;clear bx g1 g2 g3 g4 g5;go_wp2_with fail;go_loopw [8,9] (fun s8 s9 wr=>∃j:Nat,j<=n2p/\s9 = aA j/\Hid (kI.Own wr u.heap.size s8 (vD r.id r.rA (d.kids.take j)))/\Hid (eA u wr)) (fun _ s9 _=>n2p-(intOf s9).toNat)
  case atStart=>exact⟨0,by omega,rfl,Zh (by simpa[vD] using Kind.Own.nil kI u u.heap.size),Zh Ze⟩
  case round=>
   obtain⟨j,hj,rfl,HO,HW⟩:=hrel;obtain⟨X,Y,Z,rfl,h8,_⟩:=HO.slice;have c4:=HW.size;have N8:=Zh (N7.below HW bz);have R8:=Zh (R7.below HW c0);have x6:=N8.c6;have x1:=R8.c1;have x3:=R8.c3;have HL:Hid ((vD r.id r.rA (d.kids.take j)).length<=2000):=Zh (by have:=YT r.id r.rA (d.kids.take j);rw[List.length_take] at this;omega);clear h8;by_cases cr:j<n2p
   ·have c5:j<d.kids.length:=(uA HN.out);obtain⟨gb,go,rfl,al,bc⟩:=mD HK c5;have hc:wr.cell? ⟨gb,go+j,none⟩=some (aA d.kids[j]):=(HW.cell (p:=⟨gb,go+j,none⟩) al).trans bc;have c6:=Zh (GY (i:=r.id) (b:=r.rA) c5);have cs:=Zh al;have bd:=Zh bc;clear al bc;by_cases he:d.kids[j]=r.rA
    ·have be:(d.kids[j]==r.rA)=true:=(by simpa using he);have am:Hid (vD r.id r.rA (d.kids.take (j+1))=(vD r.id r.rA (d.kids.take j)++[r.id])++[d.kids[j]]):=Zh (by rw[c6.out,if_pos he,List.append_assoc];rfl);clear he;generalize d.kids[j]=kd at hc be am bd;go_wp2_with fail;go_quiet (fail);have aa:=Zh (HO.drewN nq);have BQ:=Zh (PA HW nq);have an:(wr.drewN nq).cell? ⟨W.heap.size,6,none⟩=some (.slice (some (dA gb go)) n2p G):=x6;have c7:(wr.drewN nq).cell? ⟨w.heap.size,1,none⟩=some (aA r.id):=x1;have yc:(wr.drewN nq).cell? ⟨gb,go+j,none⟩=some (aA kd):=hc;have Q:u.heap.size<=(wr.drewN nq).heap.size:=c4;clear x6 x1 x3 hc N8 R8;generalize wr.drewN nq=wq at aa BQ an c7 yc Q|-;go_upto_region 22 with(at_builtin;refine kI.iC rfl _ _ rfl (v:=.slice X Y Z) (l:=vD r.id r.rA (d.kids.take j)) (m:=[r.id]) (B:=u.heap.size) rfl (aa.alloc _) rfl rfl RB (Kind.pA.lit (heap_alloc_new _ _) rfl) (by have:=HL.out;simp;omega) AA ?_;intro v' w3 f s ao;obtain⟨A9,n9,c9,rfl,_,_,_,_,_⟩:=f.slice);have ad:=Zh f;have R:Hid (eA u w3):=Zh ((BQ.alloc Q _).grown s AA (fun k hk=>(aa.lt hk).1));have N8:=Zh (N7.below R bz);have z6:=N8.c6;have ct:w3.cell? ⟨gb,go+j,none⟩=some (aA kd):=(R.cell (p:=⟨gb,go+j,none⟩) cs).trans bd;clear f s ao an c7 yc;have cb:=R.size;go_wp2_with (at_builtin;refine kI.iC rfl _ _ rfl (v:=.slice A9 n9 c9) (l:=vD r.id r.rA (d.kids.take j)++[r.id]) (m:=[kd]) (B:=u.heap.size) rfl (ad.alloc _) rfl rfl RB (Kind.pA.lit (heap_alloc_new _ _) rfl) (by have:=HL.out;simp;omega) AA ?_;intro v' w4 f s ao;obtain⟨cu,cv,cw,rfl,_,_,_,_,_⟩:=f.slice);have bf:Hid (kI.Own w4 u.heap.size (.slice cu cv cw) (vD r.id r.rA (d.kids.take (j+1)))):=Zh (by rw[am.out];exact f);have bg:Hid (eA u w4):=Zh ((R.alloc cb _).grown s AA (fun k hk=>(ad.lt hk).1));clear f s ao z6 ct;go_wp2_with fail;go_roundw
     case rel=>exact⟨j+1,by omega,by go_num,bf,bg⟩
     case measure=>simp[intOf];omega
    ·have be:(d.kids[j]==r.rA)=false:=(by simpa using he);have am:Hid (vD r.id r.rA (d.kids.take (j+1))=vD r.id r.rA (d.kids.take j)++[d.kids[j]]):=Zh (by rw[c6.out,if_neg he]);clear he;generalize d.kids[j]=kd at hc be am bd;go_wp2_with fail;go_quiet (fail);have aa:=Zh (HO.drewN nq);have BQ:=Zh (PA HW nq);have an:(wr.drewN nq).cell? ⟨W.heap.size,6,none⟩=some (.slice (some (dA gb go)) n2p G):=x6;have yc:(wr.drewN nq).cell? ⟨gb,go+j,none⟩=some (aA kd):=hc;have Q:u.heap.size<=(wr.drewN nq).heap.size:=c4;clear x6 x1 x3 hc N8 R8;generalize wr.drewN nq=wq at aa BQ an yc Q|-;go_wp2_with (at_builtin;refine kI.iC rfl _ _ rfl (v:=.slice X Y Z) (l:=vD r.id r.rA (d.kids.take j)) (m:=[kd]) (B:=u.heap.size) rfl (aa.alloc _) rfl rfl RB (Kind.pA.lit (heap_alloc_new _ _) rfl) (by have:=HL.out;simp;omega) AA ?_;intro v' w3 f s ao;obtain⟨A9,n9,c9,rfl,_,_,_,_,_⟩:=f.slice);have bf:Hid (kI.Own w3 u.heap.size (.slice A9 n9 c9) (vD r.id r.rA (d.kids.take (j+1)))):=Zh (by rw[am.out];exact f);have bg:Hid (eA u w3):=Zh ((BQ.alloc Q _).grown s AA (fun k hk=>(aa.lt hk).1));clear f s ao an yc;go_wp2_with fail;go_roundw
     case rel=>exact⟨j+1,by omega,by go_num,bf,bg⟩
     case measure=>simp[intOf];omega
   ·obtain rfl:j=n2p:=cA
    have cc:Hid (kI.Own wr u.heap.size (.slice X Y Z) (ED r.id r.rA d.kids)):=Zh (by have:=HO.out;rw[<-HN.out,List.take_length,mh bo.out] at this;exact this);have dk:(r.rA==0)=false:=(by have:=bo.out;simpa using this);have f6:=N8.frozen 6;clear cr;have ad:=cc;have R:=HW;have cb:=R.size;have N9:Hid (LA (wr.setCell ⟨W.heap.size,6,none⟩ (.slice X Y Z)) W.heap.size (ZC (ED r.id r.rA) d) Ap np F X Y Z):=Zh (heap_set N8 6 (.slice X Y Z));have R9:Hid (bB (wr.setCell ⟨W.heap.size,6,none⟩ (.slice X Y Z)) w.heap.size r A n c):=Zh ((Below.heap_setCell wr ⟨W.heap.size,6,none⟩ (.slice X Y Z) w.heap.size (by simp only;omega)).trans R8);have O9:Hid (kI.Own (wr.setCell ⟨W.heap.size,6,none⟩ (.slice X Y Z)) u.heap.size (.slice X Y Z) (ED r.id r.rA d.kids)):=Zh (ad.sB fun g hg=>Below.heap_setCell _ _ _ _ (by have:=(ad.lt hg).1;simp only[ne_eq];omega));have D9:Hid (LB w B q y J (wr.setCell ⟨W.heap.size,6,none⟩ (.slice X Y Z))):=Zh ((D7.below R).iL cA ba N8.eD 6 _);go_upto_region 26 with fail;generalize wr.setCell ⟨W.heap.size,6,none⟩ (.slice X Y Z)=W9 at N9 R9 O9 D9|-;clear N8 R8 x6 f6 ad R cc HW;have a0:=N9.c0;have a1:=N9.c1;have a2:=N9.c2;have a3:=N9.c3;have a4:=N9.c4;have a5:=N9.c5;have a6:=N9.c6;have a7:=N9.c7;go_wp2_with fail;refine(iK k6 (ZC (ED r.id r.rA) d) Ap np F X Y Z W9 a9 ay P (by rw[az.out];rfl) ⟨by
     have:=(D9.rf.nodes _ (List.getElem_mem P)).mB;rw[bu.out,az.out] at this;exact this,O9.dE (uA H0.base)⟩ D9.rf).mono ?_
    rintro e x ⟨rfl,cx,b0⟩;obtain⟨t,T⟩:∃t:Rx,t = {J with v:=cx,rs:=J.rs.set k6 ⟨⟨Ap,np,F⟩,⟨X,Y,Z⟩,ZC (ED r.id r.rA) d⟩}:=⟨_,rfl⟩;rw[<-T] at b0;have bh:Hid (t.l=iB J.l r.par (ZC (ED r.id r.rA))):=Zh (by rw[T];exact WN a9 P bb (ZC (ED r.id r.rA)) (by rw[az.out]));have bi:Hid (t.n=y.n/\t.R=y.R/\t.foc=y.foc):=Zh (by rw[T];exact F6);have ae:Hid (LB w B q y t x):=Zh (D9.dQ b0 (fun g hg=> .inr (uA ((O9.lt hg).1))));have b4:Hid (bB x w.heap.size r A n c):=Zh (R9.eJ b0.but cA);have U:Hid (EB t.l):=Zh (by rw[bh.out];exact DI a9 (OQ _ _ _));have ap:t.rs.length<=1000:=(by rw[T];simpa using ay);obtain⟨z,C,aq,_⟩:=FC U (i:=r.id) (by rw[bh.out,YM,L6.out,eG];exact br);have ar:=Zh aq;clear b0 T aq a0 a1 a2 a3 a4 a5 a6 a7 D9 R9 N9;obtain⟨b,o,cl,Ai,ni,af,ag,ah,ai,hv,a8,hb,d0,L,I,E⟩:=ae.rf.bG C;have cy:=Zh (ae.rf.VQ hv);have bj:=Zh I;have au:=Zh E;obtain⟨nl,K⟩:=qA t.rs.length;have cz:z<nl:=cA;have d1:nl<=1000:=cA;rw[K] at d0 a8;obtain⟨mi,hm⟩:=qA (t.rs[z].nd);have ab:=Zh hm;rw[hm] at L;have l0:=L.c0;have l1:=L.c1;have l2:=L.c2;have l3:=L.c3;have l4:=L.c4;have l5:=L.c5;have l6:=L.c6;have l7:=L.c7;clear hv I E K hm L;have p1:=b4.c1;go_upto_region 27 with fail;go_cut [10] (fun d2 wx=>d2 = iA x.heap.size/\Hid (eA x wx)/\Hid (LA wx x.heap.size mi Ai ni af ag ah ai))
    case first=>
     go_region_held3 (fun w'=>w'.cell? (dA q 0)=some (.slice (some (dA b o)) nl cl)/\w'.cell? ⟨b,o+z*8,none⟩=some (aA mi.id)/\w'.cell? ⟨b,o+z*8+1,none⟩=some (aA mi.par)/\w'.cell? ⟨b,o+z*8+2,none⟩=some (bA mi.tag)/\w'.cell? ⟨b,o+z*8+3,none⟩=some (bA mi.txt)/\w'.cell? ⟨b,o+z*8+4,none⟩=some (bA mi.key)/\w'.cell? ⟨b,o+z*8+5,none⟩=some (.slice Ai ni af)/\w'.cell? ⟨b,o+z*8+6,none⟩=some (.slice ag ah ai)/\w'.cell? ⟨b,o+z*8+7,none⟩=some (aA mi.note)/\w'.cell? ⟨w.heap.size,1,none⟩=some (aA r.id)) (go_keep) ((first
      |(go_at_call 26;refine zA (rB r.id _ U ap C ar (by exact ae.rf.drewN _)) ?_)
      |(go_at_call 26;refine zA (rB r.id _ U ap C ar (by exact(ae.rf.alloc _).drewN _)) ?_)
      |fail))
     all_goals
      go_wp2_with fail;go_meet;exact⟨rfl,Zh ((Zb _ _).drew),Zh (heap_drew (LA.new x mi Ai ni af ag ah ai))⟩
    case rest=>
     obtain⟨rfl,cd,aj⟩:=hcut;obtain⟨av,rfl⟩:∃av,av=wc:=⟨_,rfl⟩;have da:x.heap.size<av.heap.size:=aj.lt;have ce:=Zh (ae.below cd);have cf:=Zh (b4.below cd b4.lt);have dl:w.heap.size<x.heap.size:=b4.lt;clear d0 l0 l1 l2 l3 l4 l5 l6 l7 a8 hb p1;have p2:=cf.c2;have q1:=aj.c1;have f1:=aj.frozen 1;have cg:Hid (¬cD q t x.heap.size):=Zh (fun hf=>by have:=ae.rf.lt hf;omega);have aw:=Zh (ce.iL cA cg aj.eD 1 (aA r.par));have O:Hid (LA (av.setCell ⟨x.heap.size,1,none⟩ (aA r.par)) x.heap.size (rD r.par mi) Ai ni af ag ah ai):=Zh (heap_set aj 1 (aA r.par));go_upto_region 29 with fail;generalize av.setCell ⟨x.heap.size,1,none⟩ (aA r.par)=d3 at O aw|-;clear p2 q1 f1 ce cf aj;have a0:=O.c0;have a1:=O.c1;have a2:=O.c2;have a3:=O.c3;have a4:=O.c4;have a5:=O.c5;have a6:=O.c6;have a7:=O.c7;go_wp2_with fail;refine(iK z (rD r.par mi) Ai ni af ag ah ai d3 U ap C (by rw[ab.out];rfl) ⟨by
      have:=(aw.rf.nodes _ (List.getElem_mem C)).mB;rw[bj.out,ab.out] at this;exact this,by
      have:=(aw.rf.nodes _ (List.getElem_mem C)).kids;rw[au.out,ab.out] at this;exact this⟩ aw.rf).mono ?_
     rintro e dm ⟨rfl,dn,ch⟩;have d4:=Zh (aw.dQ ch (fun g hg=> .inl (.inr (.inr ⟨_,List.getElem_mem C,by rw[au.out];exact hg⟩))));have d5:Hid ((t.rs.set z ⟨⟨Ai,ni,af⟩,⟨ag,ah,ai⟩,rD r.par mi⟩).map (·.nd)=OC y.l r.id r.par r.rA):=Zh (by rw[WN U.out C ar.out (rD r.par) (by rw[ab.out]),bh.out,L6.out];rfl);clear ch a0 a1 a2 a3 a4 a5 a6 a7;go_wp2_with fail;go_ret;refine⟨rfl,_,d4,?_⟩;show D.mk ((t.rs.set z _).map (·.nd)) t.n t.R t.foc=D.mk _ _ _ _;rw[d5.out,bi.out.1,bi.out.2.1,bi.out.2.2];rfl
variable{B q:Nat}{y:Rx}
theorem Lk(r:Rc)(A:jA)(n c:Nat)(w:World)(hwf:WF y.d)(h:Rf w B q y):fA 90 #[iA q,.agg (JA r A n c)] w (gC w B q y (oD y.d r.id r.par r.rA).1 (oD y.d r.id r.par r.rA).2):=by
 have f:y.rs.length<=1000:=(by have:=hwf.xG;rw[show y.d.l=y.l from rfl,MD] at this;omega);by_cases d:tC y.l r.id r.par r.rA=0
 ·have e:oD y.d r.id r.par r.rA=(0,{y.d with l:=OC y.l r.id r.par r.rA}):=(by unfold oD;rw[if_pos (show tC y.d.l r.id r.par r.rA=0 from d)];rfl);rw[e];have a:=JK d;have g:(r.id==1)=false:=(by simpa using a.h1);by_cases b:r.rA=0
  ·exact zo r A n c w hwf.VC f a.hi a.hp (by simpa using b) g hwf a.hk a.hn b h
  ·obtain⟨i,j,k⟩:=a.hb.resolve_left b;exact Ao r A n c w hwf.VC f a.hi a.hp (by simpa using b) i g hwf a.hk a.hn b (by simpa using j) (by simpa using k) h
 ·have e:oD y.d r.id r.par r.rA=(tC y.l r.id r.par r.rA,y.d):=(by unfold oD;rw[if_neg (show¬tC y.d.l r.id r.par r.rA=0 from d)];rfl);rw[e];exact uo r A n c w hwf.VC f d h
theorem Sd(r:Rc)(A:jA)(n c:Nat)(w:World)(hwf:WF y.d)(hn:y.n<=100000)(h1:r.tag.size<=maxLen)(h2:r.txt.size<=maxLen)(h3:r.key.size<=maxLen)(q1:(r.op==1)=true)(h:Rf w B q y):fA 56 #[iA q,.agg (JA r A n c)] w (gC w B q y (jD y.d r).1 (jD y.d r).2):=by
 have b:Hid (eA w (w.alloc (.cells (JA r A n c) 87))):=Zh (Zb _ _);have a:=Zh (bB.new w r A n c);have f:=Zh h;have d:=Zh hwf;clear h hwf;go_enter func56,ntmps56;go_upto_region 1 with fail;generalize w.alloc (.cells (JA r A n c) 87)=W at b a|-;have H:=Zh (f.below b);have l:=a.c0;have m:=a.c1;have o:=a.c5;have p:=a.c7;have s:=a.c2;have t:=a.c3;have u:=a.c4;have v:=a.c6;go_wp2_with fail;refine(th r A n c W d hn h1 h2 h3 H).mono ?_;rintro e w' ⟨rfl,x,g,i⟩;have j:=Zh ((LB.sC f b).trans g);have k:=Zh i;clear g i;go_wp2_with fail;go_ret;exact⟨rfl,_,j,k⟩
theorem nf(r:Rc)(A:jA)(n c:Nat)(w:World)(hwf:WF y.d)(q1:(r.op==1)=false)(q2:(r.op==2)=true)(h:Rf w B q y):fA 56 #[iA q,.agg (JA r A n c)] w (gC w B q y (oD y.d r.id r.par r.rA).1 (oD y.d r.id r.par r.rA).2):=by
 have b:Hid (eA w (w.alloc (.cells (JA r A n c) 87))):=Zh (Zb _ _);have a:=Zh (bB.new w r A n c);have f:=Zh h;have d:=Zh hwf;clear h hwf;go_enter func56,ntmps56;go_upto_region 1 with fail;generalize w.alloc (.cells (JA r A n c) 87)=W at b a|-;have H:=Zh (f.below b);have l:=a.c0;have m:=a.c1;have o:=a.c5;have p:=a.c7;have s:=a.c2;have t:=a.c3;have u:=a.c4;have v:=a.c6;go_wp2_with fail;refine(Lk r A n c W d H).mono ?_;rintro e w' ⟨rfl,x,g,i⟩;have j:=Zh ((LB.sC f b).trans g);have k:=Zh i;clear g i;go_wp2_with fail;go_ret;exact⟨rfl,_,j,k⟩
theorem Td(r:Rc)(A:jA)(n c:Nat)(w:World)(hwf:WF y.d)(q1:(r.op==1)=false)(q2:(r.op==2)=false)(q3:(r.op==3)=true)(h:Rf w B q y):fA 56 #[iA q,.agg (JA r A n c)] w (gC w B q y (OD y.d r.id).1 (OD y.d r.id).2):=by
 have b:Hid (eA w (w.alloc (.cells (JA r A n c) 87))):=Zh (Zb _ _);have a:=Zh (bB.new w r A n c);have f:=Zh h;have d:=Zh hwf;clear h hwf;go_enter func56,ntmps56;go_upto_region 1 with fail;generalize w.alloc (.cells (JA r A n c) 87)=W at b a|-;have H:=Zh (f.below b);have l:=a.c0;have m:=a.c1;have o:=a.c5;have p:=a.c7;have s:=a.c2;have t:=a.c3;have u:=a.c4;have v:=a.c6;go_wp2_with fail;refine(qh r.id W d H).mono ?_;rintro e w' ⟨rfl,x,g,i⟩;have j:=Zh ((LB.sC f b).trans g);have k:=Zh i;clear g i;go_wp2_with fail;go_ret;exact⟨rfl,_,j,k⟩
theorem oX(r:Rc)(A:jA)(n c:Nat)(w:World)(hwf:WF y.d)(hn:y.n<=100000)(h1:r.tag.size<=maxLen)(h2:r.txt.size<=maxLen)(h3:r.key.size<=maxLen)(ht:rK w A n c r.attrs)(h:Rf w B q y):fA 56 #[iA q,.agg (JA r A n c)] w (gC w B q y (VA y.d r).1 (VA y.d r).2):=by
 have g:y.rs.length<=1000:=(by have:=hwf.xG;rw[show y.d.l=y.l from rfl,MD] at this;omega);unfold VA;by_cases a:r.op=1
 ·rw[if_pos a];exact Sd r A n c w hwf hn h1 h2 h3 (by simpa using a) h
 rw[if_neg a];by_cases b:r.op=2
 ·rw[if_pos b];exact nf r A n c w hwf (by simpa using a) (by simpa using b) h
 rw[if_neg b];by_cases e:r.op=3
 ·rw[if_pos e];exact Td r A n c w hwf (by simpa using a) (by simpa using b) (by simpa using e) h
 rw[if_neg e];by_cases d:r.op=4
 ·rw[if_pos d];exact pd r A n c w hwf.VC g ht (by simpa using a) (by simpa using b) (by simpa using e) (by simpa using d) (by simpa using d) h
 rw[if_neg d];by_cases f:r.op=5
 ·rw[if_pos f];exact Rd r A n c w hwf.VC g h2 (by simpa using a) (by simpa using b) (by simpa using e) (by simpa using d) (by simpa using f) (by simpa using d) h
 rw[if_neg f];exact Qd r A n c w (by simpa using a) (by simpa using b) (by simpa using e) (by simpa using d) (by simpa using f) h
variable{B p q:Nat}{x x':Dx}{y y':Rx}
section
variable{w w':World}
structure DG(w:World)(B p q:Nat)(x:Dx)(y:Rx):Prop where
 dc:Dc w B p x
 rf:Rf w B q y
 ap:∀k,UC p x k->¬cD q y k
theorem DG.below(h:DG w B p q x y)(hb:eA w w'):DG w' B p q x y:=⟨h.dc.below hb,h.rf.below hb,h.ap⟩
theorem DG.AI(h:DG w B p q x y)(k:oC w B p x x' w'):DG w' B p q x' y:=by
 refine⟨k.dc,h.rf.but k.but (fun i a c=>h.ap i c a) h.dc.eD,fun i a b=>?_⟩;rcases k.ft i a with e|e
 ·exact h.ap i e b
 ·have:=h.rf.lt b;omega
theorem DG.sK(h:DG w B p q x y)(k:LB w B q y y' w'):DG w' B p q x y':=by
 refine⟨h.dc.but k.but (fun i a e=>h.ap i a (e▸ .inl rfl)) (oK h.rf),k.rf,fun i a b=>?_⟩;rcases k.ft i b with e|e
 ·exact h.ap i a e
 ·have:=h.dc.lt a;omega
variable{g:Nat}
theorem bB.AI{r:Rc}{A:jA}{n c:Nat}(h:bB w g r A n c)(hx:Dc w B p x)(k:oC w B p x x' w'):bB w' g r A n c:=(k.but.block g h.lt (hx.other h nA nA nA nA nA)).trans h
end
theorem uh(c:Int)(h0:0<=c)(h13:c<=13)(w:World):fA 12 #[UA c] w fun e w'=>e= .returned (aA c)/\w=w':=by
 by_cases a:c=0
 ·subst a;rw[mK];have b:=dS;go_enter func12,ntmps12;go_wp2;go_ret;exact⟨rfl,rfl⟩
 ·obtain⟨m,rfl⟩:=Int.eq_ofNat_of_zero_le h0;have e:UA (m:Int)= .iface 56 (aA (m:Int)):=(by unfold UA;rw[if_neg a]);rw[e];exact Fj m cA cA w
theorem Mk(l:List Nd)(i p b:Int):0<=tC l i p b/\tC l i p b<=13:=by
 unfold tC;split
 ·omega
 split
 ·omega
 split
 ·omega
 split
 ·omega
 split<;>omega
theorem pf(d:D)(r:Rc):0<=(VA d r).1/\(VA d r).1<=13:=by
 unfold VA;split
 ·unfold jD;split
  ·exact⟨by simp,by simp⟩
  ·split<;>exact⟨by simp,by simp⟩
 split
 ·unfold oD;have:=Mk d.l r.id r.par r.rA;split<;>simp<;>omega
 split
 ·unfold OD;split
  ·exact⟨by simp,by simp⟩
  ·split<;>exact⟨by simp,by simp⟩
 split
 ·unfold fD;split
  ·exact⟨by simp,by simp⟩
  split
  ·exact⟨by simp,by simp⟩
  split<;>exact⟨by simp,by simp⟩
 split
 ·unfold GD;split
  ·exact⟨by simp,by simp⟩
  split
  ·exact⟨by simp,by simp⟩
  split<;>exact⟨by simp,by simp⟩
 exact⟨by simp,by simp⟩
theorem qf{c:Int}(i:Int)(w:World)(hc:(vE x.d i).1=c)(h:Dc w B p x):fA 7 #[iA p,aA i] w (Made w B p x (UA c) (vE x.d i).2):=by subst hc;exact ed i w h
theorem u9{c':Int}(r:Rc)(A:jA)(n c:Nat)(w:World)(hc:(VA x.d r).1=c')(hwf:WF x.d)(hn:x.n<=100000)(ha:XI w A n c r)(h:Dc w B p x):fA 117 #[iA p,.agg (JA r A n c)] w (Made w B p x (UA c') (VA x.d r).2):=by subst hc;exact Fg r A n c w hwf hn ha h
theorem Nk{c:Int}(i:Int)(w:World)(hc:(vE y.d i).1=c)(hwf:WF y.d)(h:Rf w B q y):fA 8 #[iA q,aA i] w (gC w B q y c (vE y.d i).2):=by
 subst hc;exact Ue i w hwf.VC (by have:=hwf.xG;rw[show y.d.l=y.l from rfl,MD] at this;omega) h
theorem T0{c':Int}(r:Rc)(A:jA)(n c:Nat)(w:World)(hc:(VA y.d r).1=c')(hwf:WF y.d)(hn:y.n<=100000)(ha:XI w A n c r)(h:Rf w B q y):fA 56 #[iA q,.agg (JA r A n c)] w (gC w B q y c' (VA y.d r).2):=by
 subst hc;exact oX r A n c w hwf hn ha.tag ha.txt ha.key ha.at_ h
end P5
namespace P7
open Go.RowKit Kd P4 P5
theorem Er:(prog.info? 87).map (fun i=>(i.zero,i.size,i.bytes))=some (some (.agg #[aA 0,aA 0,aA 0,aA 0,tA,tA,tA,vA]),8,104):=by kernel_rfl
structure RR where
 r:Rc
 va:Sv
def RR.cells(a:RR):List Value:=[aA a.r.op,aA a.r.id,aA a.r.par,aA a.r.rA,bA a.r.tag,bA a.r.txt,bA a.r.key,.slice a.va.A a.va.n a.va.c]
def kR:Kind prog RR where
 t:=38
 e:=87
 size:=8
 bytes:=104
 z:=.agg #[aA 0,aA 0,aA 0,aA 0,tA,tA,tA,vA]
 cs:=RR.cells
 ht:=underlying38
 info:=VG Er
 QG:=rfl
 wF:=by decide
 RG:=by decide
 len:=fun _=>rfl
 one:=fun a u hu=>by simp[RR.cells] at hu;rcases hu with rfl|rfl|rfl|rfl|rfl|rfl|rfl|rfl<;>rfl
theorem UJ{w:World}{B:Nat}{A:jA}{l:List RR}(h:kR.pA w B A l){k:Nat}(hk:k<l.length):
 ∃b o,A=some (dA b o)/\b<B/\w.cell? ⟨b,o+k*8,none⟩=some (aA l[k].r.op)/\w.cell? ⟨b,o+k*8+1,none⟩=some (aA l[k].r.id)/\
  w.cell? ⟨b,o+k*8+2,none⟩=some (aA l[k].r.par)/\w.cell? ⟨b,o+k*8+3,none⟩=some (aA l[k].r.rA)/\w.cell? ⟨b,o+k*8+4,none⟩=some (bA l[k].r.tag)/\
  w.cell? ⟨b,o+k*8+5,none⟩=some (bA l[k].r.txt)/\w.cell? ⟨b,o+k*8+6,none⟩=some (bA l[k].r.key)/\w.cell? ⟨b,o+k*8+7,none⟩=some (.slice l[k].va.A l[k].va.n l[k].va.c):=by
 obtain⟨b,o,rfl,c,a⟩:=h.at hk;exact⟨b,o,rfl,c,a 0 _ rfl,a 1 _ rfl,a 2 _ rfl,a 3 _ rfl,a 4 _ rfl,a 5 _ rfl,a 6 _ rfl,a 7 _ rfl⟩
theorem mG{B:Nat}{v:Value}{w:World}{l:List RR}(h:kR.Own w B v l):∃A n c,v= .slice A n c/\l.length=n/\n<=c/\c<=maxLen/\(A=none->c=0/\n=0)/\kR.pA w w.heap.size A l:=by
 obtain⟨A,n,c,a,b,d,f,g,i⟩:=h.slice;exact⟨A,n,c,a,b,d,f,fun e=>by have:=g e;omega,i⟩
theorem sd(l:List RR)(A:jA)(n c:Nat)(w:World)(hn:l.length=n)(hn2:n<=1000000)(hz:A=none->c=0/\n=0)(H:kR.pA w w.heap.size A l):
 fA 35 #[.slice A n c] w (QQ kR w l):=by
 cases A with
 |none=>
  obtain⟨rfl,rfl⟩:=hz rfl;obtain rfl:l=[]:=List.length_eq_zero_iff.1 hn;clear H hn hz;have f:=fun w'=>Lib.run_eql_slice_nil (P:=prog) w' 38 87 Option.none 0 0 0 0 underlying38
  go_enter func35,ntmps35;go_wp2;go_ret;exact⟨none,0,0,rfl,Kind.Own.nil _ _ _,Ze⟩
 |some a=>
  have g:=Zh hn;have i:=Zh H;clear H hn hz;have f:=fun w'=>Lib.run_eql_slice_nil (P:=prog) w' 38 87 (some a) n c 0 0 underlying38
  go_enter func35,ntmps35;go_wp2_with (at_builtin;refine kR.iC rfl _ _ rfl (v:=.slice (some ⟨w.heap.size,0,Option.none⟩) 0 0) (l:=[]) (m:=l) (B:=w.heap.size) rfl (Kind.Own.made kR w _ Zl) rfl g RB (i.on (Zb _ _)) AA DA ?_;intro s t b d j);go_ret;obtain⟨o,p,q,rfl,_⟩:=b.slice;exact⟨o,p,q,rfl,b,(Zb _ _).grown d DA (fun k r=>by simp[Value.ownBlock] at r;omega)⟩
structure WH(w:World)(a:RR):Prop where
 mB:nB w a.va a.r.attrs
 SB:a.va.n<=1000000
structure Lg(w:World)(B g p:Nat)(vd:Value)(rs:List RR):Prop where
 mA:w.heap[g]? = some (.cells #[iA p,vd] 74 (0,0))
 base:B<=g
 own:kR.Own w B vd rs
 zI:∀a∈rs,WH w a
def nG(g:Nat)(vd:Value)(k:Nat):Prop:=k=g\/vd.ownBlock=some k
section
variable{w w':World}{B g p q:Nat}{vd:Value}{rs:List RR}{x x':Dx}{y y':Rx}
theorem Lg.lt(h:Lg w B g p vd rs){k:Nat}(hk:nG g vd k):k<w.heap.size:=by
 rcases hk with rfl|hk
 ·exact FA h.mA
 ·exact(h.own.lt hk).2
theorem Lg.ge(h:Lg w B g p vd rs){k:Nat}(hk:nG g vd k):B<=k:=by
 rcases hk with rfl|hk
 ·exact h.base
 ·exact(h.own.lt hk).1
theorem Lg.ty(h:Lg w B g p vd rs){k:Nat}(hk:nG g vd k):∃cur t,w.heap[k]? = some (.cells cur t (0,0))/\(t=74\/t=87):=by
 rcases hk with rfl|hk
 ·exact⟨_,_,h.mA,.inl rfl⟩
 ·obtain⟨c,a⟩:=h.own.ty hk;exact⟨_,_,a,.inr rfl⟩
theorem Lg.eD(h:Lg w B g p vd rs):qD w (nG g vd):=by
 intro k d j f i;obtain⟨c,t,a,b⟩:=h.ty f;rw[i] at a;injection a with a;injection a with _ e;subst e;rcases b with b|b<;>exact absurd b nA
theorem Lg.but{S:Nat->Prop}(h:Lg w B g p vd rs)(hb:gA S w w')(hS:∀k,nG g vd k->¬S k)(hA:qD w S):Lg w' B g p vd rs:=
 ⟨(hb.block g (FA h.mA) (hS g (.inl rfl))).trans h.mA,h.base,h.own.but hb (fun k c=>hS k (.inr c)),fun a b=>⟨(h.zI a b).mB.but hb hA,(h.zI a b).SB⟩⟩
theorem Lg.below(h:Lg w B g p vd rs)(hb:eA w w'):Lg w' B g p vd rs:=h.but (gA.tB hb (fun _=>False)) (fun _ _ h=>h) (qD.none w)
theorem Lg.drewN(h:Lg w B g p vd rs)(n:Nat):Lg (w.drewN n) B g p vd rs:=h.below (PA Ze n)
theorem Lg.c0(h:Lg w B g p vd rs):w.cell? (dA g 0)=some (iA p):=cell_of_row w g 0 _ _ (0,0) h.mA
theorem Lg.c1(h:Lg w B g p vd rs):w.cell? (dA g 1)=some vd:=cell_of_row w g 1 _ _ (0,0) h.mA
theorem Lg.frozen(h:Lg w B g p vd rs)(i:Nat):w.frozen? (dA g i)=false:=by
 have:=h.mA;simp[World.frozen?,this]
theorem Lg.vV{B' p':Nat}(h:Lg w B g p vd rs)(hx:Dc w B' p' x){k:Nat}(hk:nG g vd k):¬UC p' x k:=by
 obtain⟨c,t,a,b⟩:=h.ty hk;rcases b with rfl|rfl<;>exact hx.other a nA nA nA nA nA
theorem Lg.AI{B' p':Nat}(h:Lg w B g p vd rs)(hx:Dc w B' p' x)(k:oC w B' p' x x' w'):Lg w' B g p vd rs:=h.but k.but (fun _ a=>h.vV hx a) hx.eD
theorem Rf.ty{B':Nat}(h:Rf w B' q y){k:Nat}(hk:cD q y k):∃cur t,w.heap[k]? = some (.cells cur t (0,0))/\(t=72\/t=53\/t=3):=by
 rcases hk with rfl|hk|⟨r,hr,hk⟩
 ·exact⟨_,_,h.mA,.inl rfl⟩
 ·obtain⟨c,a⟩:=h.own.ty hk;exact⟨_,_,a,.inr (.inl rfl)⟩
 ·obtain⟨c,a⟩:=(h.nodes r hr).kids.ty hk;exact⟨_,_,a,.inr (.inr rfl)⟩
theorem Lg.wV{B':Nat}(h:Lg w B g p vd rs)(hy:Rf w B' q y){k:Nat}(hk:nG g vd k):¬cD q y k:=by
 intro f;obtain⟨c,t,i,b⟩:=h.ty hk;obtain⟨j,l,d,a⟩:=Rf.ty hy f;rw[i] at d;injection d with d;injection d with _ e;subst e;rcases b with b|b<;>rcases a with a|a|a<;>exact absurd (b.symm.trans a) nA
theorem Lg.sK{B':Nat}(h:Lg w B g p vd rs)(hy:Rf w B' q y)(k:LB w B' q y y' w'):Lg w' B g p vd rs:=h.but k.but (fun _ a e=>h.wV hy a (.inl e)) (oK hy)
structure pD(w:World)(B g p:Nat)(x:Dx)(vd:Value)(x':Dx)(vd':Value)(rs':List RR)(w':World):Prop where
 dc:Dc w' B p x'
 lg:Lg w' B g p vd' rs'
 but:gA (fun k=>UC p x k\/nG g vd k) w w'
 ft:∀k,UC p x' k->UC p x k\/w.heap.size<=k
 lf:∀k,vd'.ownBlock=some k->vd.ownBlock=some k\/w.heap.size<=k
variable{vd':Value}{rs':List RR}
theorem ZU{S T:Nat->Prop}(h:qD w S)(k:qD w T):qD w (fun i=>S i\/T i):=fun i c f a=>a.elim (h i c f) (k i c f)
theorem DG.Xb(h:DG w B p q x y)(l:Lg w B g p vd rs)(k:pD w B g p x vd x' vd' rs' w'):DG w' B p q x' y:=by
 refine⟨k.dc,h.rf.but k.but (fun i b a=>a.elim (fun a=>h.ap i a b) (fun a=>l.wV h.rf a b)) (ZU h.dc.eD l.eD),fun i b c=>?_⟩;rcases k.ft i b with e|e
 ·exact h.ap i e c
 ·have:=h.rf.lt c;omega
theorem pD.apart{v:Value}(k:pD w B g p x vd x' vd' rs' w'){C:Nat}{m:List RR}(ho:kR.Own w C v m)(ha:gE v vd):gE v vd':=fun i a e=>by
 rcases k.lf i e with e|e
 ·exact ha i a e
 ·have:=(ho.lt a).2;omega
theorem pD.own{v:Value}(h:Dc w B p x)(l:Lg w B g p vd rs)(k:pD w B g p x vd x' vd' rs' w'){C:Nat}{m:List RR}(ho:kR.Own w C v m)(ha:gE v vd):kR.Own w' C v m:=
 ho.but k.but fun i a e=>by
  obtain⟨d,b⟩:=ho.ty a;rcases e with e|e|e
  ·exact h.other b nA nA nA nA nA e
  ·subst e;exact RA b l.mA nA rfl
  ·exact ha i a e
theorem pD.AB(h:Dc w B p x)(l:Lg w B g p vd rs)(k:pD w B g p x vd x' vd' rs' w'):Below B w w':=k.but.AB (fun _ _ a=>a.elim h.ge l.ge) (by have:=h.base;have:=h.lt (.inl rfl:UC p x p);omega)
end
end P7
namespace P19
open Go.RowKit Kd P4 P5 P7
attribute [local go_sem ↓] Go.wp_at_zero Go.wp_at_succ
structure Wk(w:World)(B g q:Nat)(y:Rx)(v:Value)(rs:List RR):Prop where
 mA:w.heap[g]? = some (.cells #[iA q,v] 40 (0,0))
 base:B<=g
 doc:Rf w B q y
 own:kR.Own w B v rs
 zI:∀a∈rs,WH w a
def MG(g q:Nat)(v:Value)(k:Nat):Prop:=k=g\/k=q\/v.ownBlock=some k
section
variable{w w' w2:World}{B g q:Nat}{y y' y2:Rx}{v v' v2:Value}{rs rs' rs2:List RR}
theorem Wk.eD(h:Wk w B g q y v rs):qD w (MG g q v):=by
 intro k c f a b;rcases a with rfl|rfl|a
 ·exact RA h.mA b nA rfl
 ·exact RA h.doc.mA b nA rfl
 ·obtain⟨d,e⟩:=h.own.ty a;exact RA e b nA rfl
theorem Wk.lt(h:Wk w B g q y v rs){k:Nat}(hk:MG g q v k):k<w.heap.size:=by
 rcases hk with rfl|rfl|hk
 ·exact FA h.mA
 ·exact FA h.doc.mA
 ·exact(h.own.lt hk).2
theorem Wk.ge(h:Wk w B g q y v rs){k:Nat}(hk:MG g q v k):B<=k:=by
 rcases hk with rfl|rfl|hk
 ·exact h.base
 ·exact h.doc.base
 ·exact(h.own.lt hk).1
theorem Wk.c0(h:Wk w B g q y v rs):w.cell? (dA g 0)=some (iA q):=cell_of_row w g 0 _ _ (0,0) h.mA
theorem Wk.c1(h:Wk w B g q y v rs):w.cell? (dA g 1)=some v:=cell_of_row w g 1 _ _ (0,0) h.mA
theorem Wk.frozen(h:Wk w B g q y v rs)(i:Nat):w.frozen? (dA g i)=false:=by
 have:=h.mA;simp[World.frozen?,this]
theorem Wk.Xs(h:Wk w B g q y v rs):g≠q:=RA h.mA h.doc.mA nA
theorem Wk.aV(h:Wk w B g q y v rs){k:Nat}(hk:v.ownBlock=some k):k≠g/\k≠q:=by
 obtain⟨d,a⟩:=h.own.ty hk;exact⟨RA a h.mA nA,RA a h.doc.mA nA⟩
theorem Wk.sK(h:Wk w B g q y v rs)(k:LB w B q y y' w'):Wk w' B g q y' v rs:=
 ⟨(k.but.block g (FA h.mA) h.Xs).trans h.mA,h.base,k.rf,h.own.but k.but (fun i c e=>(h.aV c).2 e),fun a b=>⟨(h.zI a b).mB.but k.but (oK h.doc),(h.zI a b).SB⟩⟩
theorem Wk.below(h:Wk w B g q y v rs)(hb:eA w w'):Wk w' B g q y v rs:=h.sK (LB.sC h.doc hb)
theorem Wk.drewN(h:Wk w B g q y v rs)(n:Nat):Wk (w.drewN n) B g q y v rs:=h.below (PA Ze n)
structure nC(w:World)(B g q:Nat)(y:Rx)(v:Value)(y':Rx)(v':Value)(rs':List RR)(w':World):Prop where
 wk:Wk w' B g q y' v' rs'
 but:gA (MG g q v) w w'
 ft:∀k,cD q y' k->cD q y k\/w.heap.size<=k
 vf:∀k,v'.ownBlock=some k->v.ownBlock=some k\/w.heap.size<=k
theorem nC.J9(h:Wk w B g q y v rs)(k:LB w B q y y' w'):nC w B g q y v y' v rs w':=⟨h.sK k,k.but.mono (fun _ _ e=> .inr (.inl e)),k.ft,fun _ e=> .inl e⟩
theorem nC.refl(h:Wk w B g q y v rs):nC w B g q y v y v rs w:=⟨h,gA.refl _ _,fun _ e=> .inl e,fun _ e=> .inl e⟩
theorem nC.sC(h:Wk w B g q y v rs)(hb:eA w w'):nC w B g q y v y v rs w':=nC.J9 h (LB.sC h.doc hb)
theorem nC.trans(h:nC w B g q y v y' v' rs' w')(k:nC w' B g q y' v' y2 v2 rs2 w2):nC w B g q y v y2 v2 rs2 w2:=by
 have c:=h.but.size;refine⟨k.wk,h.but.trans k.but (fun i a b=>?_),fun i a=>?_,fun i a=>?_⟩
 ·rcases b with e|e|e
  ·exact .inl e
  ·exact .inr (.inl e)
  ·rcases h.vf i e with e|e
   ·exact .inr (.inr e)
   ·omega
 ·rcases k.ft i a with e|e
  ·exact h.ft i e
  ·exact .inr cA
 ·rcases k.vf i a with e|e
  ·exact h.vf i e
  ·exact .inr cA
theorem nC.AB(h:Wk w B g q y v rs)(k:nC w B g q y v y' v' rs' w'):Below B w w':=k.but.AB (fun _ _ a=>h.ge a) (by have:=h.base;have:=FA h.mA;omega)
theorem Oo{w6a w7:World}{v7:Value}{a:RR}(h:Wk w6a B g q y v rs)(hg:w6a.grownBy w7 v.ownBlock)(ho:kR.Own w7 B v7 (rs++[a]))(ha:WH w6a a)(hat:v7.ownBlock=v.ownBlock\/v7.ownBlock=some w6a.heap.size):
 nC w6a B g q y v y v7 (rs++[a]) (w7.setCell (dA g 1) v7):=by
 have p:gA (fun k=>v.ownBlock=some k) w6a w7:=gA.sG hg (fun i j _=>j);have r:v.ownBlock≠some g:=fun e=>(h.aV e).1 rfl
 have w:w7.heap[g]? = some (.cells #[iA q,v] 40 (0,0)):=(p.block g (FA h.mA) r).trans h.mA;have s:gA (MG g q v) w6a (w7.setCell (dA g 1) v7):=gA.setCell (p.mono fun _ _ j=> .inr (.inr j)) (fun _=> .inl rfl) _;have x:gA (fun k=>k=g\/v.ownBlock=some k) w6a (w7.setCell (dA g 1) v7):=gA.setCell (p.mono fun _ _ j=> .inr j) (fun _=> .inl rfl) _;refine⟨⟨heap_set w 1 v7,h.base,h.doc.but x (fun k u e=>?_) (fun k c f u=>h.eD k c f (u.elim .inl (fun e=> .inr (.inr e)))),ho.sB fun i j=>Below.heap_setCell _ _ _ _ ?_,fun b m=>?_⟩,s,fun _ e=> .inl e,fun i j=>?_⟩
 ·obtain⟨d,t,n,l⟩:=Rf.ty h.doc u;rcases e with rfl|e
  ·rw[h.mA] at n;injection n with n;injection n with _ e _;rcases l with l|l|l<;>exact absurd (e.trans l) nA
  ·obtain⟨A,o⟩:=h.own.ty e;rw[n] at o;injection o with o;injection o with _ e _;rcases l with l|l|l<;>exact absurd (l.symm.trans e) nA
 ·rintro rfl;obtain⟨d,z⟩:=ho.ty j;exact RA z w nA rfl
 ·rcases List.mem_append.1 m with m|m
  ·exact⟨(h.zI b m).mB.but s h.eD,(h.zI b m).SB⟩
  ·rw[List.mem_singleton] at m;subst m;exact⟨ha.mB.but s h.eD,ha.SB⟩
 ·rcases hat with e|e
  ·rw[e] at j;exact .inl j
  ·rw[e] at j;injection j with j;exact .inr cA
end
def xV(w:World)(B g q:Nat)(y:Rx)(v:Value)(rs:List RR)(r:Rc)(e:Ending)(w':World):Prop:=
 e= .returned (.tuple #[])/\∃y' v' rs',nC w B g q y v y' v' rs' w'/\(y'.d,rs'.map (·.r))=GA (y.d,rs.map (·.r)) r/\rs'.length<=rs.length+1
variable{B g q:Nat}{y:Rx}{v:Value}{rs:List RR}
theorem xQ(r:Rc)(A:jA)(n c:Nat)(w:World)(hwf:WF y.d)(hn:y.n<=100000)(h1:r.tag.size<=maxLen)(h2:r.txt.size<=maxLen)(h3:r.key.size<=maxLen)(hat:nB w ⟨A,n,c⟩ r.attrs)(hwa:P3.Wf r.attrs)(SB:n<=1000000)(hl:rs.length<=1000000)(h:Wk w B g q y v rs):
 fA 65 #[iA g,.agg (JA r A n c)] w (xV w B g q y v rs r):=by
 have Z:Hid (eA w (w.alloc (.cells (JA r A n c) 87))):=Zh (Zb _ _);have p:=Zh (bB.new w r A n c);have H:=Zh h;have a0:=Zh hat;have D:=Zh SB;have a1:=Zh hwf;have G:Hid (r.tag.size<=maxLen/\r.txt.size<=maxLen/\r.key.size<=maxLen):=Zh ⟨h1,h2,h3⟩;have a2:=Zh hwa;clear h hat SB hwf h1 h2 h3 hwa;go_enter func65,ntmps65;go_upto_region 1 with fail;generalize w.alloc (.cells (JA r A n c) 87)=W at Z p|-;have I:=Zh (H.below Z);have s:=Zh (a0.below Z);have d0:=I.c0;have b0:=p.c0;have b1:=p.c1;have b2:=p.c2;have b3:=p.c3;have b4:=p.c4;have b5:=p.c5;have b6:=p.c6;have b7:=p.c7;obtain⟨cd,J⟩:=qA ((VA y.d r).1);have P:=Zh J;have CA:Hid (∀j,fA 56 #[iA q,.agg (JA r A n c)] (W.drewN j) (gC (W.drewN j) B q y cd (VA y.d r).2)):=Zh (fun j=>by
  have:=oX r A n c (W.drewN j) a1 hn G.1 G.2.1 G.2.2 ⟨s.len,s.cap,s.nil,D,a2,s.holds⟩ (I.doc.drewN j);rw[J] at this;exact this)
 clear J;go_wp2_with fail;go_region_held3 (fun w'=>w'.cell? (dA g 0)=some (iA q)/\w'.cell? ⟨w.heap.size,0,none⟩=some (aA r.op)/\w'.cell? ⟨w.heap.size,1,none⟩=some (aA r.id)/\w'.cell? ⟨w.heap.size,2,none⟩=some (aA r.par)/\w'.cell? ⟨w.heap.size,3,none⟩=some (aA r.rA)/\w'.cell? ⟨w.heap.size,4,none⟩=some (bA r.tag)/\w'.cell? ⟨w.heap.size,5,none⟩=some (bA r.txt)/\w'.cell? ⟨w.heap.size,6,none⟩=some (bA r.key)/\w'.cell? ⟨w.heap.size,7,none⟩=some (.slice A n c)) (first|go_keep|exact K9) ((first
  |(go_at_call 56;refine(CA _).mono ?_;rintro e o ⟨rfl,E,d5,Q⟩;have L:Hid (Wk o B g q E v rs):=Zh ((I.drewN _).sK d5);have d:Hid (bB o w.heap.size r A n c):=Zh ((d5.but.block _ p.lt (by rintro e;subst e;exact RA I.doc.mA p nA rfl)).trans p);have K9:=And.intro L.c0 (And.intro d.c0 (And.intro d.c1 (And.intro d.c2 (And.intro d.c3 (And.intro d.c4 (And.intro d.c5 (And.intro d.c6 d.c7)))))));have D5:Hid (LB W B q y E o):=Zh ((LB.sC I.doc (PA Ze _)).trans d5);have R:=Zh Q;clear d5 Q)
  |fail))
 have f:=L;have T:=Zh ((nC.sC H Z).trans (nC.J9 I D5));have A5:=Zh (s.but D5.but (oK I.doc));clear d0 b0 b1 b2 b3 b4 b5 b6 b7 L CA;by_cases t:cd=0
 ·have M:Hid ((E.d,(rs.map (·.r))++[r])=GA (y.d,rs.map (·.r)) r):=Zh (by unfold GA;simp only;rw[R.out,P.out,t];rfl);subst t;obtain⟨A2,n2,c2,u,U,a6,a7,a3,a4⟩:=mG f.own;have x:=Zh u;have a8:=Zh U;have d1:=f.c1;rw[u] at d1;have f1:=f.frozen 1;have a9:g<o.heap.size:=FA f.mA;have aa:w.heap.size<o.heap.size:=d.lt;have b0:=d.c0;have b1:=d.c1;have b2:=d.c2;have b3:=d.c3;have b4:=d.c4;have b5:=d.c5;have b6:=d.c6;have b7:=d.c7;have N:Hid (∀k,(Value.slice A2 n2 c2).ownBlock=some k->k≠g/\k<w.heap.size):=Zh (by
   rw[<-u];intro k hk;exact⟨(H.aV hk).1,H.lt (.inr (.inr hk))⟩)
  clear u U a4 a3;go_upto_region 3 with fail;refine Tl.GH (S:=(fun w'=>w'.cell? (dA g 1)=some (.slice A2 n2 c2)/\w'.cell? ⟨w.heap.size,0,none⟩=some (aA r.op)/\w'.cell? ⟨w.heap.size,1,none⟩=some (aA r.id)/\w'.cell? ⟨w.heap.size,2,none⟩=some (aA r.par)/\w'.cell? ⟨w.heap.size,3,none⟩=some (aA r.rA)/\w'.cell? ⟨w.heap.size,4,none⟩=some (bA r.tag)/\w'.cell? ⟨w.heap.size,5,none⟩=some (bA r.txt)/\w'.cell? ⟨w.heap.size,6,none⟩=some (bA r.key)/\w'.cell? ⟨w.heap.size,7,none⟩=some (.slice A n c))) (by kernel_rfl) 10 _ rfl rfl rfl (by kernel_rfl) (by go_keep) (fun hHeld=>?_);simp only[List.setIfInBounds_toArray,List.set_cons_zero,List.set_cons_succ,Tl.idle];refine Zn 0 ?_;refine Zn 1 ?_;refine Zn 2 ?_;refine Zn 3 ?_;refine Zn 4 ?_;refine Zn 5 ?_;refine Zr [6] ?_;refine AllReadyH.cons rfl (fun K hK=>?_) ?_
  ·go_simp;refine hK _ _ ?_ (fun hHeld=>?_)
   ·go_keep
   clear hK K;(try simp only[Zs]);refine Zr [7] ?_;refine AllReadyH.cons rfl (fun K hK=>?_) ?_
   ·refine kR.tG rfl (.tmp 17) (.tmp 19) rfl (v:=.slice A2 n2 c2) (l:=rs) (m:=[⟨r,⟨A,n,c⟩⟩]) (B:=B) (A:=some ⟨o.heap.size,0,none⟩) (n:=1) (c:=1) rfl (by have:=f.own;rw[x.out] at this;first|exact this.alloc _|exact(this.drew).alloc _) rfl rfl RB (Kind.pA.lit (by first|exact heap_alloc_new _ _|exact heap_drew (lD DA)) rfl) AA (by have:=f.base;have:=FA f.mA;simp;omega) ?_;intro v7 O i b F;obtain⟨A7,n7,c7,rfl,_,_,_,_,_⟩:=i.slice;have O7:=Zh i;have G7:=Zh b;have V:=Zh F;have e7:O.cell? (dA g 1)=some (.slice A2 n2 c2):=(cell_of_row O g 1 _ _ (0,0) ((b.block g (by have:=FA f.mA;simp;omega) (fun e=>((N g e.symm).1 rfl).elim)).trans (by first|exact oB f.mA|exact heap_drew (oB f.mA)))).trans (by rw[x.out];rfl);have z:Hid (bB O w.heap.size r A n c):=Zh ((b.block _ (by have:=d.lt;simp;omega) (fun e=>by have:=(N _ e.symm).2;omega)).trans (by first|exact oB d|exact heap_drew (oB d)));have f7:O.frozen? (dA g 1)=false:=(by have hb:=(b.block g (by have:=FA f.mA;simp;omega) (fun e=>((N g e.symm).1 rfl).elim)).trans (show _=_ by first|exact oB f.mA|exact heap_drew (oB f.mA));simp[World.frozen?,hb]);clear i b F;refine hK _ _ ?_ (fun hHeld=>?_)
    ·exact⟨e7,z.c0,z.c1,z.c2,z.c3,z.c4,z.c5,z.c6,z.c7⟩
    clear hK K;(try simp only[Zs]);refine Zn 8 ?_;refine Zn 9 ?_;refine Zn 10 ?_;refine wpAnyH_done (by kernel_rfl) ?_ _;intro K hK;go_simp;refine hK _ _ ?_;clear hK K;have C:eA o (o.alloc (.cells (JA r A n c) 87)).drew:=(Zb _ _).drew;have X:=f.below C;have g7:World.grownBy (o.alloc (.cells (JA r A n c) 87)).drew O v.ownBlock:=(by rw[x.out];exact G7);have Y:nB (o.alloc (.cells (JA r A n c) 87)).drew ⟨A,n,c⟩ r.attrs:=A5.below C;have k8:=Oo (a:=⟨r,⟨A,n,c⟩⟩) X g7 O7 ⟨Y,by have:=D.out;show n<=_;omega⟩ (by rw[x.out];simpa using V.out);generalize O.setCell (dA g 1) (.slice A7 n7 c7)=W8 at k8|-;have a5:=Zh ((T.trans (nC.sC f C)).trans k8);clear k8 e7 f7 z g7 Y X C O7 G7 V;go_wp2_with fail
    go_end0
    exact⟨rfl,E,_,_,a5,by rw[List.map_append];exact M,by simp⟩
   exact AllReadyH.nil
  exact AllReadyH.nil
 ·have M:Hid ((E.d,rs.map (·.r))=GA (y.d,rs.map (·.r)) r):=Zh (by unfold GA;simp only;rw[R.out,P.out,if_neg t]);have hq:(cd==0)=false:=(by simpa using t);clear t;go_wp2_with fail
  go_end0
  exact⟨rfl,E,v,rs,T,M,by omega⟩
variable{w w':World}{B g q C:Nat}{y y':Rx}{v v' u:Value}{rs rs':List RR}{l:List Int}
theorem Wk.ints(h:Wk w B g q y v rs)(ho:kI.Own w C u l){k:Nat}(hk:u.ownBlock=some k):¬MG g q v k:=by
 obtain⟨d,a⟩:=ho.ty hk;rintro(rfl|rfl|e)
 ·exact RA a h.mA nA rfl
 ·exact RA a h.doc.mA nA rfl
 ·obtain⟨c,b⟩:=h.own.ty e;exact RA a b nA rfl
theorem nC.ints(h:Wk w B g q y v rs)(k:nC w B g q y v y' v' rs' w')(ho:kI.Own w C u l):kI.Own w' C u l:=ho.but k.but (fun _ a=>h.ints ho a)
theorem ZE{P:Program}{α:Type}{K:Kind P α}{w:World}{B n c:Nat}{A:jA}{l:List α}(h:K.Own w B (.slice A n c) l):l.length=n/\n<=c/\c<=maxLen/\(A=none->c=0)/\K.pA w w.heap.size A l:=by
 obtain⟨i,j,k,a,b,d,e,f,g⟩:=h.slice;injection a with h1 h2 h3;subst h1;subst h2;subst h3;exact⟨b,d,e,f,g⟩
theorem sH(left:List Int)(A:jA)(n c:Nat)(beh:Int)(w:World)(H:kI.pA w w.heap.size A left)(hn:left.length=n):fA 66 #[.slice A n c,aA beh] w fun e w'=>e= .returned (aA (aB left beh))/\w=w':=by
 cases left with
 |nil=>
  obtain rfl:n=0:=hn.symm;clear H hn;go_enter func66,ntmps66;go_wp2_with fail;go_ret;exact⟨rfl,rfl⟩
 |cons i r=>
  obtain⟨b,o,rfl,f,a⟩:=mD H (k:=0) DA;have d:0<n:=(by rw[<-hn];simp);have g:(0:Int)<(n:Int):=cA;simp only[Nat.add_zero,List.getElem_cons_zero] at a;clear H hn;go_enter func66,ntmps66;go_wp2_with fail;go_ret;exact⟨rfl,rfl⟩
def Ys(w:World)(m:Nd)(e:Ending)(w':World):Prop:=e= .returned (.agg #[bA m.tag,bA m.key])/\eA w w'
theorem Po(i:Int)(x:Nd)(w:World)(hwf:WF y.d)(hf:find y.l i=some x)(h:Wk w B g q y v rs):fA 62 #[iA g,aA i] w (Ys w x):=by
 have K:=Zh hwf.VC;have S:y.rs.length<=1000:=(by have:=hwf.xG;rw[show y.d.l=y.l from rfl,MD] at this;omega);obtain⟨k,M,s,hx⟩:=FC K (LH hf);obtain rfl:y.rs[k].nd=x:=by rw[hf] at hx;injection hx with hx;exact hx.symm
 have l:Hid (eA w (w.alloc (.cells #[tA,tA] 122))):=Zh (Zb _ _);have H:=Zh (h.below l);have t:Hid ((w.alloc (.cells #[tA,tA] 122)).heap[w.heap.size]? = some (.cells #[tA,tA] 122 (0,0))):=Zh (heap_alloc_new w _);clear h hf hx hwf;go_enter func62,ntmps62;go_upto_region 1 with fail;generalize w.alloc (.cells #[tA,tA] 122)=W at l H t|-;obtain⟨b,o,T,A,n,u,z,C,D,U,c,E,N,L,F,G⟩:=H.doc.bG M;have HY:=Zh s;obtain⟨nl,d⟩:=qA y.rs.length;have V:k<nl:=cA;have X:nl<=1000:=cA;rw[d] at N c;have Y:=H.c0;have O:Hid (∀f,eA W f->fA 26 #[iA q,aA i] f fun e w'=>e= .returned (aA k)/\f=w'):=Zh (fun f Z=>rB i f K S M s (H.doc.below Z));obtain⟨m,I⟩:=qA (y.rs[k].nd);have EM:=Zh I;rw[I] at L;clear I;have l0:=L.c0;have l1:=L.c1;have l2:=L.c2;have l3:=L.c3;have l4:=L.c4;have l5:=L.c5;have l6:=L.c6;have l7:=L.c7;clear U F G d L s;go_cut [5] (fun s5 P=>s5 = iA W.heap.size/\Hid (eA W P)/\Hid (LA P W.heap.size m A n u z C D))
 case first=>
  go_region_held3 (fun w'=>w'.cell? (dA q 0)=some (.slice (some (dA b o)) nl T)/\w'.cell? ⟨b,o+k*8,none⟩=some (aA m.id)/\w'.cell? ⟨b,o+k*8+1,none⟩=some (aA m.par)/\w'.cell? ⟨b,o+k*8+2,none⟩=some (bA m.tag)/\w'.cell? ⟨b,o+k*8+3,none⟩=some (bA m.txt)/\w'.cell? ⟨b,o+k*8+4,none⟩=some (bA m.key)/\w'.cell? ⟨b,o+k*8+5,none⟩=some (.slice A n u)/\w'.cell? ⟨b,o+k*8+6,none⟩=some (.slice z C D)/\w'.cell? ⟨b,o+k*8+7,none⟩=some (aA m.note)/\w'.cell? (dA g 0)=some (iA q)) (go_keep) ((first
  |(go_at_call 26;refine zA (O _ (by first|exact PA Ze _|exact PA (Zb _ _) _)) ?_)
  |(go_at_call 26;refine zA (O _ (by first|exact PA Ze _|exact PA (Zb _ _) _)) ?_)
  |fail))
  all_goals
   go_wp2_with fail;go_meet;exact⟨rfl,Zh ((Zb _ _).drew),Zh (by exact LA.new W m A n u z C D)⟩
 case rest=>
  obtain⟨rfl,Q,R⟩:=hcut;obtain⟨a,rfl⟩:∃a,a=wc:=⟨_,rfl⟩;clear N l0 l1 l2 l3 l4 l5 l6 l7 c E Y;have e2:=R.c2;have e4:=R.c4;have r:Hid (a.heap[w.heap.size]? = some (.cells #[tA,tA] 122 (0,0))):=Zh ((Q.block _ (FA t)).trans t);have z0:=IA 0 r;have z1:=IA 1 r;have zf:∀j,a.frozen? ⟨w.heap.size,j,none⟩=false:=fun j=>by have E:=r.out;simp[World.frozen?,E]
  have J:w.heap.size<a.heap.size:=FA r;have BB:=Zh (l.trans (Q.mono l.size));go_wp2_with fail;refine bodyPost_ret (v:=.agg #[bA m.tag,bA m.key]) (by simp[results,results62,go_sem,z0,z1,J]) rfl ⟨by rw[EM.out],?_⟩;exact(BB.setCell (p:=⟨w.heap.size,0,none⟩) Zl _).setCell (p:=⟨w.heap.size,1,none⟩) Zl _
def Kr(w:World)(B g q:Nat)(y:Rx)(v:Value)(rs:List RR)(p:Sg×List Int)(e:Ending)(w':World):Prop:=
 ∃A n c y' v' rs',e= .returned (.slice A n c)/\kI.Own w' w.heap.size (.slice A n c) p.2/\nC w B g q y v y' v' rs' w'/\(y'.d,rs'.map (·.r))=p.1/\rs'.length<=rs.length+1000
theorem pO:P3.Wf []:=fun _ h=>absurd h DA
theorem qO(w:World):nB w ⟨none,0,0⟩ []:=nB.yI w
theorem qR(i p b:Int)(w:World)(hwf:WF y.d)(hn:y.n<=100000)(hl:rs.length<=1000000)(h:Wk w B g q y v rs):
 fA 65 #[iA g,.agg #[aA 2,aA i,aA p,aA b,tA,tA,tA,vA]] w (xV w B g q y v rs (vB i p b)):=
 xQ (vB i p b) none 0 0 w hwf hn (by show(⟨#[]⟩:wA).size<=_;unfold maxLen;decide) (by show(⟨#[]⟩:wA).size<=_;unfold maxLen;decide) (by show(⟨#[]⟩:wA).size<=_;unfold maxLen;decide) (qO w) pO cA hl h
def rR(w0:World)(B g q:Nat)(y:Rx)(v:Value)(rs:List RR)(par b:Int)(left:List Int)(k:Nat)(u8:Value)(l8:List Int)(s15:Value)(wr:World):Prop:=
 ∃(j:Nat) (y':Rx) (v':Value) (rs':List RR),j<=k/\s15 = aA j/\Hid (nC w0 B g q y v y' v' rs' wr)/\Hid ((y'.d,rs'.map (·.r))=tD par b (left.take j) (y.d,rs.map (·.r)))/\rs'.length<=rs.length+j/\Hid (kI.Own wr w0.heap.size u8 l8)
theorem ll(par:Int)(left:List Int)(A:jA)(n c:Nat)(beh id:Int)(kk:Nat)(w:World)(hk:kk<left.length)(hid:left[kk]=id)(hne:∀j (h:j<left.length),j<kk->left[j]≠id)
 (HO:kI.Own w C (.slice A n c) left) (hn:n<=900) (hwf:WF y.d) (hyn:y.n<=100000) (hl:rs.length<=900000) (h:Wk w B g q y v rs):
 fA 64 #[iA g,aA par,.slice A n c,aA beh,aA id] w (Kr w B g q y v rs (UB (y.d,rs.map (·.r)) par left beh id kk)):=by
 have OA:=Zh (ZE HO);have OW:=Zh HO;have H:=Zh h;have z:=Zh hwf;have HI:=Zh hid;have aj:=Zh hne;have LL:=Zh OA.1;have ak:kk<n:=(by rw[<-LL.out];exact hk);have ap:n<=c:=OA.2.1;have aq:c<=9223372036854775807:=(by have:=OA.2.2.1;unfold maxLen at this;omega);obtain⟨b,o,rfl,hb,a3⟩:=mD OA.2.2.2.2 hk;have GI:Hid (∀wz,kI.Own wz C (.slice (some (dA b o)) n c) left->∀j (hj:j<left.length),wz.cell? ⟨b,o+j,none⟩=some (aA left[j])):=Zh (fun wz hz j hj=>by
  obtain⟨b',o',hA,_,gg⟩:=mD (ZE hz).2.2.2.2 hj;injection hA with hA;injection hA with e1 e2;subst e1;subst e2;exact gg)
 clear HO h hwf hid hne hb a3;go_enter func64,ntmps64;go_wp2_with fail;go_loop [11] (fun s=>∃j:Nat,j<=kk/\s = aA j) (fun s=>n-(intOf s).toNat)
 case atStart=>exact⟨0,by omega,rfl⟩
 case round=>
  obtain⟨j,hj,rfl⟩:=hrel;by_cases al:j<kk
  ·have Q:j<left.length:=(by rw[LL.out];omega);have u:=GI w OW j Q;have hq:(left[j] != id)=true:=(by simpa using aj j Q al);have i1:(0:Int)<=(j:Int):=cA;have i2:(j:Int)<(n:Int):=cA;generalize left[j]=lj at u hq;go_wp2_with fail;go_round
   case rel=>exact⟨j+1,by omega,by go_num⟩
   case measure=>simp[intOf];omega
  ·obtain rfl:j=kk:=cA
   have Q:j<left.length:=(by rw[LL.out];exact ak);have u:=GI w OW j Q;have hq:(left[j] != id)=false:=(by rw[HI.out];simp);generalize left[j]=lj at u hq;have i1:(0:Int)<=(j:Int):=cA;have i2:(j:Int)<(n:Int):=cA;have HT:=Zh (OA.2.2.2.2.take j);have HR:Hid (kI.pA w w.heap.size (some ⟨b,o+(j+1),none⟩) (left.drop (j+1))):=Zh (by
    have:=OA.2.2.2.2.drop (j+1);simpa[kI] using this)
   have LT:Hid ((left.take j).length=j):=Zh (by rw[List.length_take,LL.out];omega);have LR:Hid ((left.drop (j+1)).length=n-(j+1)):=Zh (by rw[List.length_drop,LL.out]);have i3:(j:Int)<=(c:Int):=cA;have i5:(n:Int)<=(c:Int):=cA;have i6:IntKind.i64.wrap ((j:Int)+1)=((j+1:Nat):Int):=by
    simp[IntKind.wrap,IntKind.bits,IntKind.signed];omega
   have i7:((j+1:Nat):Int)<=(n:Int):=cA;have i8:(0:Int)<=((j+1:Nat):Int):=cA;have MV:Hid (UB (y.d,rs.map (·.r)) par left beh id j=(if j=0 then(y.d,rs.map (·.r)) else if inside y.l y.foc id=false then GA (y.d,rs.map (·.r)) (vB id par (aB left 0)) else tD par (aB (left.drop (j+1)) beh) (left.take j) (y.d,rs.map (·.r)),left.take j++left.drop (j+1))):=Zh rfl;obtain⟨pe,am⟩:=qA (j+1);rw[am] at HR LR i6 i7 i8 MV;have BZ:Hid (eA w (w.alloc (.cells #[] 3)).drew):=Zh (Zb _ _).drew;have OZ:Hid (kI.Own (w.alloc (.cells #[] 3)).drew w.heap.size (.slice (some ⟨w.heap.size,0,none⟩) 0 0) []):=Zh (Kind.Own.made kI w _ Zl);have N0:Hid (aB left 0=left[0]'cA):=Zh (by cases left with|nil=>simp at Q|cons a r=>rfl);by_cases ah:c=pe
   ·subst ah;obtain rfl:n=c:=cA
    have ai:Hid (kI.pA w w.heap.size (some (dA b o)) (left.drop n)):=Zh (by rw[List.drop_of_length_le (by rw[LL.out];exact Zl)];exact Kind.pA.nil _ _ _);have a4:Hid ((left.drop n).length=0):=Zh (by rw[List.length_drop,LL.out];omega);clear HR LR;go_upto_region 4 with fail;go_region_held3 (fun _=>True) (trivial) ((first
     |(refine kI.tG rfl (.tmp 24) (.tmp 27) rfl (v:=.slice (some ⟨w.heap.size,0,Option.none⟩) 0 0) (l:=[]) (m:=left.take j) (B:=w.heap.size) rfl OZ rfl LT RB (HT.on BZ) AA BZ.size ?_;intro v7 w7 d i R;obtain⟨A7,n7,c7,rfl,_,_,_,_,_⟩:=d.slice;have O7:=Zh d;have B7:Hid (eA w w7):=Zh (BZ.grown i BZ.size (fun k hk=>by simp[Value.ownBlock] at hk;omega));have E:=B7.size;clear d i R)
     |(refine kI.tG rfl (.tmp 28) (.tmp 32) rfl (v:=.slice A7 n7 c7) (l:=[]++left.take j) (m:=left.drop n) (B:=w.heap.size) rfl O7 rfl a4 RB (ai.on B7) (by have:=LT.out;have:=a4.out;simp;omega) E ?_;intro v8 M f p S;obtain⟨N,O,P,rfl,_,_,_,_,_⟩:=f.slice;have O8:=Zh f;have T:Hid (eA w M):=Zh (Below.grown (a:=w) B7 p E (fun k hk=>(O7.lt hk).1));clear f p S)
     |fail))
    all_goals
     have U:=Zh (H.below T);have W8:=Zh (nC.sC H T);have a5:=Zh (OW.below T Zl);clear O7 B7 E u;by_cases F:j=0
     ·subst F;have t:Hid (UB (y.d,rs.map (·.r)) par left beh id 0=((y.d,rs.map (·.r)),left.take 0++left.drop n)):=Zh (by rw[MV.out,if_pos rfl]);have a6:(((0:Nat):Int)==0)=true:=DA;go_wp2_with fail;go_ret;exact⟨N,O,P,y,v,rs,rfl,by rw[t.out];exact O8,W8,by rw[t.out],by omega⟩
     ·have a6:((j:Int)==0)=false:=AA;have p0:=U.c0;have p3:=U.doc.c3;have CI:Hid (∀V,fA 98 #[iA q,aA y.foc,aA id] (M.drewN V) fun e w'=>e= .returned (.bool (inside y.l y.foc id))/\eA M w'):=Zh (fun V=>(fM y.foc id (M.drewN V) z.VC (by have:=z.xG;rw[show y.d.l=y.l from rfl,MD] at this;omega) (U.doc.drewN V)).mono (by
       rintro e w' ⟨rfl,hb⟩;exact⟨rfl,(PA Ze V).trans hb⟩))
      obtain⟨bi,G⟩:=qA (inside y.l y.foc id);rw[G] at CI;have W:=Zh G;clear G;go_upto_region 7 with fail;go_region_held3 (fun w'=>w'.cell? (dA g 0)=some (iA q)/\w'.cell? (dA q 3)=some (aA y.foc)) (first|go_keep|exact K9) ((first
       |(go_at_call 98;refine(CI _).mono ?_;rintro e w9 ⟨rfl,b9⟩;have x:=Zh (U.below b9);have K9:=And.intro x.c0 x.doc.c3;have B9:=Zh b9;clear b9)
       |fail))
      all_goals
       have W9:=Zh (W8.trans (nC.sC U B9));have a7:=Zh (a5.below B9 Zl);have O9:=Zh (O8.below B9 Zl);clear CI p0 p3;cases bi with
       |false=>
        have t:Hid (UB (y.d,rs.map (·.r)) par left beh id j=(GA (y.d,rs.map (·.r)) (vB id par (aB left 0)),left.take j++left.drop n)):=Zh (by rw[MV.out,if_neg F,if_pos W.out]);have u:=GI w9 a7 0 cA;rw[<-N0.out,Nat.add_zero] at u;have i0:(0:Int)<(n:Int):=cA;have I:=Zh (qR id par (aB left 0) w9 z hyn cA x);generalize aB left 0=n0 at u I t;go_wp2_with fail;refine I.mono ?_;rintro e a8 ⟨rfl,X,v5,J,d5,Y,a9⟩;have K:=Zh (W9.trans d5);have aa:=Zh (nC.ints x d5 O9);have ab:=Zh Y;clear d5 Y I u;go_wp2_with fail;go_ret;exact⟨N,O,P,X,v5,J,rfl,by rw[t.out];exact aa,K,by rw[t.out];exact ab,by omega⟩
       |true=>
        have t:Hid (UB (y.d,rs.map (·.r)) par left beh id j=(tD par (aB (left.drop n) beh) (left.take j) (y.d,rs.map (·.r)),left.take j++left.drop n)):=Zh (by rw[MV.out,if_neg F,if_neg (by rw[W.out];decide)]);have ac:=Zh (T.trans (B9.mono T.size));have CN:=Zh (sH (left.drop n) (some (dA b o)) 0 0 beh w9 (ai.on ac) a4);generalize aB (left.drop n) beh=D at CN t;go_wp2_with fail;refine zA CN ?_;have ST:Hid (rR w B g q y v rs par D left j (.slice N O P) (left.take j++left.drop n) (aA 0) w9):=Zh ⟨0,y,v,rs,by omega,rfl,W9,Zh rfl,by omega,O9⟩;clear CN;go_wp2_with fail;go_loopw [15] (fun L wr=>rR w B g q y v rs par D left j (.slice N O P) (left.take j++left.drop n) L wr) (fun L _=>j-(intOf L).toNat)
        case atStart=>exact ST
        case round=>
         obtain⟨a,X,v5,J,ha,rfl,Z,HP,a9,OR⟩:=hrel;clear ST;have ad:=Zh (nC.ints H Z OW);by_cases an:a<j
         ·have a0:a<left.length:=(by rw[LL.out];omega);have u:=GI wr ad a a0;have i1:(0:Int)<=(a:Int):=cA;have i2:(a:Int)<(n:Int):=cA;have PS:Hid (tD par D (left.take (a+1)) (y.d,rs.map (·.r))=GA (tD par D (left.take a) (y.d,rs.map (·.r))) (vB left[a] par D)):=Zh (by rw[List.take_succ_eq_append_getElem a0,fT]);obtain⟨q1,q2,_⟩:=IM par D (left.take a) (s:=(y.d,rs.map (·.r))) z;rw[<-HP.out] at q1 q2;have ae:X.n<=100000:=(by have h1:X.n=y.n:=q2;omega);have I:=Zh (qR left[a] par D wr q1 ae cA Z.wk);generalize left[a]=la at u I PS;clear q1 q2;go_wp2_with fail;refine I.mono ?_;rintro e a8 ⟨rfl,y6,v6,a1,d6,a2,ao⟩;have K:=Zh (Z.trans d6);have af:=Zh (nC.ints Z.wk d6 OR);have ag:Hid ((y6.d,a1.map (·.r))=tD par D (left.take (a+1)) (y.d,rs.map (·.r))):=Zh (by rw[a2,PS.out,<-HP.out]);clear d6 a2 I u;go_wp2_with fail;go_roundw
          case rel=>exact⟨a+1,y6,v6,a1,by omega,by go_num,K,ag,by omega,af⟩
          case measure=>simp[intOf];omega
         ·obtain rfl:a=j:=cA
          go_wp2_with fail;go_ret;exact⟨N,O,P,X,v5,J,rfl,by rw[t.out];exact OR,Z,by rw[t.out];exact HP,by omega⟩
   ·go_upto_region 4 with fail;go_region_held3 (fun _=>True) (trivial) ((first
     |(refine kI.tG rfl (.tmp 24) (.tmp 27) rfl (v:=.slice (some ⟨w.heap.size,0,Option.none⟩) 0 0) (l:=[]) (m:=left.take j) (B:=w.heap.size) rfl OZ rfl LT RB (HT.on BZ) AA BZ.size ?_;intro v7 w7 d i R;obtain⟨A7,n7,c7,rfl,_,_,_,_,_⟩:=d.slice;have O7:=Zh d;have B7:Hid (eA w w7):=Zh (BZ.grown i BZ.size (fun k hk=>by simp[Value.ownBlock] at hk;omega));have E:=B7.size;clear d i R)
     |(refine kI.tG rfl (.tmp 28) (.tmp 32) rfl (v:=.slice A7 n7 c7) (l:=[]++left.take j) (m:=left.drop pe) (B:=w.heap.size) rfl O7 rfl LR RB (HR.on B7) (by have:=LT.out;have:=LR.out;simp;omega) E ?_;intro v8 M f p S;obtain⟨N,O,P,rfl,_,_,_,_,_⟩:=f.slice;have O8:=Zh f;have T:Hid (eA w M):=Zh (Below.grown (a:=w) B7 p E (fun k hk=>(O7.lt hk).1));clear f p S)
     |fail))
    all_goals
     have U:=Zh (H.below T);have W8:=Zh (nC.sC H T);have a5:=Zh (OW.below T Zl);clear O7 B7 E u;by_cases F:j=0
     ·subst F;have t:Hid (UB (y.d,rs.map (·.r)) par left beh id 0=((y.d,rs.map (·.r)),left.take 0++left.drop pe)):=Zh (by rw[MV.out,if_pos rfl]);have a6:(((0:Nat):Int)==0)=true:=DA;go_wp2_with fail;go_ret;exact⟨N,O,P,y,v,rs,rfl,by rw[t.out];exact O8,W8,by rw[t.out],by omega⟩
     ·have a6:((j:Int)==0)=false:=AA;have p0:=U.c0;have p3:=U.doc.c3;have CI:Hid (∀V,fA 98 #[iA q,aA y.foc,aA id] (M.drewN V) fun e w'=>e= .returned (.bool (inside y.l y.foc id))/\eA M w'):=Zh (fun V=>(fM y.foc id (M.drewN V) z.VC (by have:=z.xG;rw[show y.d.l=y.l from rfl,MD] at this;omega) (U.doc.drewN V)).mono (by
       rintro e w' ⟨rfl,hb⟩;exact⟨rfl,(PA Ze V).trans hb⟩))
      obtain⟨bi,G⟩:=qA (inside y.l y.foc id);rw[G] at CI;have W:=Zh G;clear G;go_upto_region 7 with fail;go_region_held3 (fun w'=>w'.cell? (dA g 0)=some (iA q)/\w'.cell? (dA q 3)=some (aA y.foc)) (first|go_keep|exact K9) ((first
       |(go_at_call 98;refine(CI _).mono ?_;rintro e w9 ⟨rfl,b9⟩;have x:=Zh (U.below b9);have K9:=And.intro x.c0 x.doc.c3;have B9:=Zh b9;clear b9)
       |fail))
      all_goals
       have W9:=Zh (W8.trans (nC.sC U B9));have a7:=Zh (a5.below B9 Zl);have O9:=Zh (O8.below B9 Zl);clear CI p0 p3;cases bi with
       |false=>
        have t:Hid (UB (y.d,rs.map (·.r)) par left beh id j=(GA (y.d,rs.map (·.r)) (vB id par (aB left 0)),left.take j++left.drop pe)):=Zh (by rw[MV.out,if_neg F,if_pos W.out]);have u:=GI w9 a7 0 cA;rw[<-N0.out,Nat.add_zero] at u;have i0:(0:Int)<(n:Int):=cA;have I:=Zh (qR id par (aB left 0) w9 z hyn cA x);generalize aB left 0=n0 at u I t;go_wp2_with fail;refine I.mono ?_;rintro e a8 ⟨rfl,X,v5,J,d5,Y,a9⟩;have K:=Zh (W9.trans d5);have aa:=Zh (nC.ints x d5 O9);have ab:=Zh Y;clear d5 Y I u;go_wp2_with fail;go_ret;exact⟨N,O,P,X,v5,J,rfl,by rw[t.out];exact aa,K,by rw[t.out];exact ab,by omega⟩
       |true=>
        have t:Hid (UB (y.d,rs.map (·.r)) par left beh id j=(tD par (aB (left.drop pe) beh) (left.take j) (y.d,rs.map (·.r)),left.take j++left.drop pe)):=Zh (by rw[MV.out,if_neg F,if_neg (by rw[W.out];decide)]);have ac:=Zh (T.trans (B9.mono T.size));have CN:=Zh (sH (left.drop pe) (some ⟨b,o+pe,none⟩) (n-pe) (c-pe) beh w9 (HR.on ac) LR);generalize aB (left.drop pe) beh=D at CN t;go_wp2_with fail;refine zA CN ?_;have ST:Hid (rR w B g q y v rs par D left j (.slice N O P) (left.take j++left.drop pe) (aA 0) w9):=Zh ⟨0,y,v,rs,by omega,rfl,W9,Zh rfl,by omega,O9⟩;clear CN;go_wp2_with fail;go_loopw [15] (fun L wr=>rR w B g q y v rs par D left j (.slice N O P) (left.take j++left.drop pe) L wr) (fun L _=>j-(intOf L).toNat)
        case atStart=>exact ST
        case round=>
         obtain⟨a,X,v5,J,ha,rfl,Z,HP,a9,OR⟩:=hrel;clear ST;have ad:=Zh (nC.ints H Z OW);by_cases an:a<j
         ·have a0:a<left.length:=(by rw[LL.out];omega);have u:=GI wr ad a a0;have i1:(0:Int)<=(a:Int):=cA;have i2:(a:Int)<(n:Int):=cA;have PS:Hid (tD par D (left.take (a+1)) (y.d,rs.map (·.r))=GA (tD par D (left.take a) (y.d,rs.map (·.r))) (vB left[a] par D)):=Zh (by rw[List.take_succ_eq_append_getElem a0,fT]);obtain⟨q1,q2,_⟩:=IM par D (left.take a) (s:=(y.d,rs.map (·.r))) z;rw[<-HP.out] at q1 q2;have ae:X.n<=100000:=(by have h1:X.n=y.n:=q2;omega);have I:=Zh (qR left[a] par D wr q1 ae cA Z.wk);generalize left[a]=la at u I PS;clear q1 q2;go_wp2_with fail;refine I.mono ?_;rintro e a8 ⟨rfl,y6,v6,a1,d6,a2,ao⟩;have K:=Zh (Z.trans d6);have af:=Zh (nC.ints Z.wk d6 OR);have ag:Hid ((y6.d,a1.map (·.r))=tD par D (left.take (a+1)) (y.d,rs.map (·.r))):=Zh (by rw[a2,PS.out,<-HP.out]);clear d6 a2 I u;go_wp2_with fail;go_roundw
          case rel=>exact⟨a+1,y6,v6,a1,by omega,by go_num,K,ag,by omega,af⟩
          case measure=>simp[intOf];omega
         ·obtain rfl:a=j:=cA
          go_wp2_with fail;go_ret;exact⟨N,O,P,X,v5,J,rfl,by rw[t.out];exact OR,Z,by rw[t.out];exact HP,by omega⟩
end P19
namespace P19
open Go.RowKit Kd P4 P5 P7 P14
variable{w w':World}{B g q C:Nat}{y y':Rx}{v v':Value}{rs rs':List RR}{A:jA}{n c:Nat}{ids:List Int}
theorem Wk.TM(h:Wk w B g q y v rs){s:Nat}{cur:Array Value}{t:TypeId}(hs:w.heap[s]? = some (.cells cur t (0,0)))(h1:t≠40)(h2:t≠72)(h3:t≠87):¬MG g q v s:=by
 rintro(rfl|rfl|e)
 ·exact RA hs h.mA h1 rfl
 ·exact RA hs h.doc.mA h2 rfl
 ·obtain⟨b,a⟩:=h.own.ty e;exact RA hs a h3 rfl
structure YH(w:World)(g q:Nat)(v:Value)(A:jA)(n:Nat)(ids:List Int):Prop where
 len:ids.length=n
 holds:kI.pA w w.heap.size A ids
 ap:ids≠[]->∀b o,A=some (dA b o)->¬MG g q v b
theorem YH.wR(h:Wk w B g q y v rs)(k:nC w B g q y v y' v' rs' w')(hi:YH w g q v A n ids):YH w' g q v' A n ids:=by
 by_cases a:ids=[]
 ·subst a;exact⟨hi.len,Kind.pA.nil _ _ _,fun h=>absurd rfl h⟩
 ·have i:0<ids.length:=List.length_pos_iff.2 a;obtain⟨b,o,rfl,l,_⟩:=mD hi.holds i;refine⟨hi.len,(hi.holds.sB (fun c ⟨f,e⟩ hlt=>k.but.block c hlt (hi.ap a c f e))).more k.but.size,fun _ c f e j=>?_⟩;injection e with e;injection e with e1 e2;subst e1;have d:=hi.ap a b o rfl;rcases j with e|e|e
  ·exact d (.inl e)
  ·exact d (.inr (.inl e))
  ·rcases k.vf b e with e|e
   ·exact d (.inr (.inr e))
   ·omega
theorem YH.Za(h:Wk w B g q y v rs)(ho:kI.Own w C (.slice A n c) ids):YH w g q v A n ids:=by
 obtain⟨a,_,_,_,d⟩:=ZE ho;refine⟨a,d,fun f b o e=>?_⟩;rcases ho.form with⟨_,e0⟩|⟨g',c',cur,hv,hg,_⟩
 ·exact absurd e0 f
 ·injection hv with e1;rw[e] at e1;injection e1 with e1;injection e1 with e1;subst e1;exact h.ints ho hg
theorem nI:(⟨#[]⟩:wA).size<=maxLen:=by unfold maxLen;decide
theorem Aq(i:Int)(w:World)(hwf:WF y.d)(hn:y.n<=100000)(hl:rs.length<=1000000)(h:Wk w B g q y v rs):
 fA 65 #[iA g,.agg #[aA 3,aA i,aA 0,aA 0,tA,tA,tA,vA]] w (xV w B g q y v rs (FE i)):=
 xQ (FE i) none 0 0 w hwf hn nI nI nI (qO w) pO cA hl h
end P19
namespace P19
open Go.RowKit Kd P4 P5 P7 P14 P16
inductive zF:WV->Prop
 |mk {kind:Int} {tag key txt:wA} {sa sk:Sv} {attrs:List P3.At} {kids:List WV} (h1:tag.size<=maxLen) (h2:key.size<=maxLen) (h3:txt.size<=maxLen) (ha:P3.bC attrs=true) (ks:∀k∈kids,zF k):zF (.mk kind tag key txt sa attrs sk kids)
theorem zF.tag{t:WV}(h:zF t):t.tag.size<=maxLen:=by cases h;assumption
theorem zF.key{t:WV}(h:zF t):t.key.size<=maxLen:=by cases h;assumption
theorem zF.txt{t:WV}(h:zF t):t.txt.size<=maxLen:=by cases h;assumption
theorem zF.mB{t:WV}(h:zF t):P3.bC t.attrs=true:=by cases h;assumption
theorem zF.ks{t:WV}(h:zF t):∀k∈t.kids,zF k:=by cases h;assumption
theorem vH{l:List P3.At}(h:P3.bC l=true):P3.Wf l/\l.length<=8:=by
 obtain⟨b,c,_⟩:=P3.oJ.1 h;refine⟨fun a d=>?_,b⟩;obtain⟨e,f⟩:=c a d;have g:=P12.XS e;have i:=P12.zN f;simp at g i;exact⟨by unfold maxLen;omega,by unfold maxLen;omega⟩
structure ZQ(w:World)(A:jA)(n:Nat)(ts:List WV):Prop where
 len:ts.length=n
 holds:kQ.pA w w.heap.size A ts
 ok:∀t∈ts,MC kQ w w.heap.size t
structure JI(w:World)(C B g q:Nat)(y:Rx)(v:Value)(rs:List RR)(par:Int)(ids:List Int)(A:jA)(n c:Nat)(A':jA)(n' _c':Nat)(ts:List WV):Prop where
 wk:Wk w B g q y v rs
 wf:WF y.d
 may:pG y.d
 p0:par≠0
 kids:Kids (y.d,rs.map (·.r)) par ids
 IC:ids.Nodup
 SB:ids.length<=200
 ids:YH w g q v A n ids
 want:∀w',gA (MG g q v) w w'->ZQ w' A' n' ts
 small:∀t∈ts,zF t
 nz:A=none->c=0
 EG:eB (oA ts)<=1000
 num:y.n+(eB (oA ts):Nat)<=90000
 len:rs.length+2000*(eB (oA ts)+1)<=800000
theorem JI.below{w w':World}{C B g q:Nat}{y:Rx}{v:Value}{rs:List RR}{par:Int}{ids:List Int}{A:jA}{n c:Nat}{A':jA}{n' c':Nat}{ts:List WV}(h:JI w C B g q y v rs par ids A n c A' n' c' ts)(hb:eA w w'):JI w' C B g q y v rs par ids A n c A' n' c' ts:=
 ⟨h.wk.below hb,h.wf,h.may,h.p0,h.kids,h.IC,h.SB,YH.wR h.wk (nC.sC h.wk hb) h.ids,fun b a=>h.want b ((gA.tB hb (MG g q v)).trans a (fun _ _ e=>e)),h.small,h.nz,h.EG,h.num,h.len⟩
def Bq(w:World)(B g q:Nat)(y:Rx)(v:Value)(rs:List RR)(s':Sg)(e:Ending)(w':World):Prop:=
 e= .returned (.tuple #[])/\∃y' v' rs',nC w B g q y v y' v' rs' w'/\(y'.d,rs'.map (·.r))=s'
def rO(ts:List WV):Prop:=∀(f:Nat),dL (oA ts)<=f->∀(C B g q:Nat) (y:Rx) (v:Value) (rs:List RR) (par:Int) (ids:List Int) (A:jA) (n c:Nat) (beh:Int) (A':jA) (n' c':Nat) (w:World),
 JI w C B g q y v rs par ids A n c A' n' c' ts->
 fA 32 #[iA g,aA par,.slice A n c,aA beh,.slice A' n' c'] w (Bq w B g q y v rs (DB (f+1) (y.d,rs.map (·.r)) par ids beh (oA ts)))
structure Cx(w:World)(B g q:Nat)(y:Rx)(v:Value)(rs:List RR)(bx:Nat)(t:WV)(lv:Value)(left:List Int)(s:Sg)(wx:World):Prop where
 run:∃y' v' rs',nC w B g q y v y' v' rs' wx/\(y'.d,rs'.map (·.r))=s
 mA:wx.heap[bx]? = some (.cells (mC t) 117 (0,0))
 own:kI.Own wx 0 lv left
section
variable{w wx w':World}{B g q bx:Nat}{y:Rx}{v:Value}{rs:List RR}{t:WV}{lv:Value}{left:List Int}{s:Sg}
theorem Cx.c0(h:Cx w B g q y v rs bx t lv left s wx):wx.cell? (dA bx 0)=some (aA t.kind):=cell_of_row wx bx 0 _ _ (0,0) h.mA
theorem Cx.c1(h:Cx w B g q y v rs bx t lv left s wx):wx.cell? (dA bx 1)=some (bA t.tag):=cell_of_row wx bx 1 _ _ (0,0) h.mA
theorem Cx.c2(h:Cx w B g q y v rs bx t lv left s wx):wx.cell? (dA bx 2)=some (bA t.key):=cell_of_row wx bx 2 _ _ (0,0) h.mA
theorem Cx.c3(h:Cx w B g q y v rs bx t lv left s wx):wx.cell? (dA bx 3)=some (bA t.txt):=cell_of_row wx bx 3 _ _ (0,0) h.mA
theorem Cx.c4(h:Cx w B g q y v rs bx t lv left s wx):wx.cell? (dA bx 4)=some (.slice t.sa.A t.sa.n t.sa.c):=cell_of_row wx bx 4 _ _ (0,0) h.mA
theorem Cx.c5(h:Cx w B g q y v rs bx t lv left s wx):wx.cell? (dA bx 5)=some (.slice t.sk.A t.sk.n t.sk.c):=cell_of_row wx bx 5 _ _ (0,0) h.mA
theorem Cx.g0(h:Cx w B g q y v rs bx t lv left s wx):wx.cell? (dA g 0)=some (iA q):=by
 obtain⟨b,c,a,k,_⟩:=h.run;exact k.wk.c0
theorem Cx.q1(h:Cx w B g q y v rs bx t lv left s wx):wx.cell? (dA q 1)=some (aA (s.1.n+1)):=by
 obtain⟨b,c,a,k,e⟩:=h.run;rw[k.wk.doc.c1,<-e];rfl
theorem Cx.step(h:Cx w B g q y v rs bx t lv left s wx){s':Sg}(hd:∀y' v' rs',nC w B g q y v y' v' rs' wx->(y'.d,rs'.map (·.r))=s->∃y2 v2 rs2,nC wx B g q y' v' y2 v2 rs2 w'/\(y2.d,rs2.map (·.r))=s'):Cx w B g q y v rs bx t lv left s' w':=by
 obtain⟨y',v',rs',k,e⟩:=h.run;obtain⟨y2,v2,rs2,a,b⟩:=hd y' v' rs' k e;refine⟨⟨y2,v2,rs2,k.trans a,b⟩,(a.but.block bx (FA h.mA) (k.wk.TM h.mA nA nA nA)).trans h.mA,a.ints k.wk h.own⟩
theorem Cx.below(h:Cx w B g q y v rs bx t lv left s wx)(hb:eA wx w'):Cx w B g q y v rs bx t lv left s w':=
 h.step fun b c a k e=>⟨b,c,a,nC.sC k.wk hb,e⟩
theorem Cx.list(h:Cx w B g q y v rs bx t lv left s wx){lv':Value}{left':List Int}(ho:kI.Own wx 0 lv' left'):Cx w B g q y v rs bx t lv' left' s wx:=⟨h.run,h.mA,ho⟩
theorem mV(r:Rc)(A:jA)(n c:Nat)(h:Cx w B g q y v rs bx t lv left s wx)(hwf:WF s.1)(hn:s.1.n<=100000)(hl:s.2.length<=1000000)(h1:r.tag.size<=maxLen)(h2:r.txt.size<=maxLen)(h3:r.key.size<=maxLen)(hat:nB wx ⟨A,n,c⟩ r.attrs)(hwa:P3.Wf r.attrs)(SB:n<=1000000):
 fA 65 #[iA g,.agg (JA r A n c)] wx fun e w'=>e= .returned (.tuple #[])/\Cx w B g q y v rs bx t lv left (GA s r) w':=by
 obtain⟨m,o,d,k,e⟩:=h.run;subst e;refine(xQ r A n c wx hwf hn h1 h2 h3 hat hwa SB (by simpa using hl) k.wk).mono ?_;rintro e w' ⟨rfl,f,i,a,b,j,_⟩;refine⟨rfl,(b.but.block bx (FA h.mA) (k.wk.TM h.mA nA nA nA)).trans h.mA |> fun l=>⟨⟨f,i,a,k.trans b,j⟩,l,b.ints k.wk h.own⟩⟩
theorem Qo(i:Int)(h:Cx w B g q y v rs bx t lv left s wx)(hwf:WF s.1)(hn:s.1.n<=100000)(hl:s.2.length<=1000000)(hs:zF t):
 fA 65 #[iA g,.agg #[aA 1,aA i,aA 0,aA 0,bA t.tag,bA t.txt,bA t.key,vA]] wx fun e w'=>e= .returned (.tuple #[])/\Cx w B g q y v rs bx t lv left (GA s (jB i t.tag t.txt t.key)) w':=
 mV (jB i t.tag t.txt t.key) none 0 0 h hwf hn hl hs.tag hs.txt hs.key (qO wx) pO cA
theorem Cq(i p b:Int)(h:Cx w B g q y v rs bx t lv left s wx)(hwf:WF s.1)(hn:s.1.n<=100000)(hl:s.2.length<=1000000):
 fA 65 #[iA g,.agg #[aA 2,aA i,aA p,aA b,tA,tA,tA,vA]] wx fun e w'=>e= .returned (.tuple #[])/\Cx w B g q y v rs bx t lv left (GA s (vB i p b)) w':=
 mV (vB i p b) none 0 0 h hwf hn hl nI nI nI (qO wx) pO cA
theorem Q9(i:Int)(a:List P3.At)(A:jA)(n c:Nat)(h:Cx w B g q y v rs bx t lv left s wx)(hwf:WF s.1)(hn:s.1.n<=100000)(hl:s.2.length<=1000000)(hat:nB wx ⟨A,n,c⟩ a)(ha:P3.bC a=true):
 fA 65 #[iA g,.agg #[aA 4,aA i,aA 0,aA 0,tA,tA,tA,.slice A n c]] wx fun e w'=>e= .returned (.tuple #[])/\Cx w B g q y v rs bx t lv left (GA s (rC i a)) w':=by
 obtain⟨b,d⟩:=vH ha;have f:a.length=n:=hat.len;exact mV (rC i a) A n c h hwf hn hl nI nI nI hat b cA
def pN(wx:World)(b:Nat)(nd:Nd)(AV:jA)(nV cV:Nat)(AK:jA)(nK cK:Nat):Prop:=LA wx b nd AV nV cV AK nK cK/\nB wx ⟨AV,nV,cV⟩ nd.attrs
theorem pN.below{b:Nat}{nd:Nd}{AV:jA}{nV cV:Nat}{AK:jA}{nK cK:Nat}(h:pN wx b nd AV nV cV AK nK cK)(hb:eA wx w'):pN w' b nd AV nV cV AK nK cK:=⟨(hb.block b (FA h.1)).trans h.1,h.2.below hb⟩
theorem ql(i:Int)(h:Cx w B g q y v rs bx t lv left s wx)(hwf:WF s.1)(hn:s.1.n<=100000)(hl:s.2.length<=1000000)(hs:zF t):
 fA 65 #[iA g,.agg #[aA 5,aA i,aA 0,aA 0,tA,bA t.txt,tA,vA]] wx fun e w'=>e= .returned (.tuple #[])/\Cx w B g q y v rs bx t lv left (GA s (eE i t.txt)) w'/\∀b nd AV nV cV AK nK cK,pN wx b nd AV nV cV AK nK cK->pN w' b nd AV nV cV AK nK cK:=by
 obtain⟨m,n,d,k,e⟩:=h.run;subst e;refine(xQ (eE i t.txt) none 0 0 wx hwf hn nI hs.txt nI (qO wx) pO cA (by simpa using hl) k.wk).mono ?_;rintro e w' ⟨rfl,f,j,c,a,l,_⟩;refine⟨rfl,⟨⟨f,j,c,k.trans a,l⟩,(a.but.block bx (FA h.mA) (k.wk.TM h.mA nA nA nA)).trans h.mA,a.ints k.wk h.own⟩,fun b nd AV nV cV AK nK cK hn=>?_⟩;exact⟨(a.but.block b (FA hn.1) (k.wk.TM hn.1 nA nA nA)).trans hn.1,hn.2.but a.but k.wk.eD⟩
theorem Ro(beh:Int)(A:jA)(n c:Nat)(h:Cx w B g q y v rs bx t (.slice A n c) left s wx):fA 66 #[.slice A n c,aA beh] wx fun e w'=>e= .returned (aA (aB left beh))/\wx=w':=by
 obtain⟨a,_,_,_,b⟩:=ZE h.own;exact sH left A n c beh wx b a
theorem So(par:Int)(A:jA)(n c:Nat)(beh id:Int)(h:Cx w B g q y v rs bx t (.slice A n c) left s wx)(hid:id∈left)(hll:left.length<=200)(hwf:WF s.1)(hn:s.1.n<=100000)(hl:s.2.length<=900000):
 fA 64 #[iA g,aA par,.slice A n c,aA beh,aA id] wx fun e w'=>∃A1 n1 c1,e= .returned (.slice A1 n1 c1)/\Cx w B g q y v rs bx t (.slice A1 n1 c1) (UB s par left beh id (left.idxOf id)).2 (UB s par left beh id (left.idxOf id)).1 w':=by
 obtain⟨x,z,i,k,e⟩:=h.run;subst e;have a:=List.idxOf_lt_length_iff.2 hid;obtain⟨l,_⟩:=ZE h.own;refine(ll par left A n c beh id (left.idxOf id) wx a (List.getElem_idxOf a) (fun j C b e=>?_) h.own cA hwf hn (by simpa using hl) k.wk).mono ?_
 ·have:=List.not_of_lt_findIdx (p:=(· == id)) b;simp at this;exact this e
 ·rintro e w' ⟨A1,n1,c1,m,o,d,rfl,r,f,u,_⟩;exact⟨A1,n1,c1,rfl,⟨m,o,d,k.trans f,u⟩,(f.but.block bx (FA h.mA) (k.wk.TM h.mA nA nA nA)).trans h.mA,r.dE (Nat.zero_le _)⟩
theorem yQ(i:Int)(h:Cx w B g q y v rs bx t lv left s wx)(hwf:WF s.1):
 fA 33 #[iA q,aA i] wx fun e w'=>(∃A n c,e= .returned (.slice A n c)/\kI.Own wx 0 (.slice A n c) (xA s.1.l i))/\wx=w':=by
 obtain⟨a,j,b,k,e⟩:=h.run;subst e;have d:a.rs.length<=1000:=(by have:=hwf.xG;rw[show a.d.l=a.l from rfl,MD] at this;omega);refine(TT i wx hwf.VC d k.wk.doc).mono ?_;rintro e w' ⟨⟨A,n,c,rfl,f,_⟩,rfl⟩;exact⟨⟨A,n,c,rfl,f.dE (Nat.zero_le _)⟩,rfl⟩
theorem fQ(hk:rO t.kids)(f:Nat)(hf:dL (oA t.kids)<=f)(id:Int)(A:jA)(n c:Nat)(h:Cx w B g q y v rs bx t lv left s wx)(hwf:WF s.1)(hmay:pG s.1)(hid:id≠0)(ho:kI.Own wx 0 (.slice A n c) (xA s.1.l id))
 (hw:∀w',gA (MG g q v) w w'->MC kQ w' w'.heap.size t) (hs:zF t) (hc:eB (oA t.kids)<=1000) (hn:s.1.n+(eB (oA t.kids):Nat)<=90000) (hl:s.2.length+2000*(eB (oA t.kids)+1)<=800000):
 fA 32 #[iA g,aA id,.slice A n c,aA 0,.slice t.sk.A t.sk.n t.sk.c] wx fun e w'=>e= .returned (.tuple #[])/\Cx w B g q y v rs bx t lv left (DB (f+1) s id (xA s.1.l id) 0 (oA t.kids)) w':=by
 obtain⟨j,p,b,k,e⟩:=h.run;subst e;have l:∀d,gA (MG g q p) wx d->ZQ d t.sk.A t.sk.n t.kids:=fun d u=>by
  have m:=hw d (k.but.trans u (fun i F hf=>by
   rcases hf with e|e|e
   ·exact .inl e
   ·exact .inr (.inl e)
   ·rcases k.vf i e with e|e
    ·exact .inr (.inr e)
    ·omega))
  exact⟨m.kl,m.kh,m.ks⟩
 obtain⟨x,z⟩:=NI (s:=(j.d,b.map (·.r))) hwf id;refine(hk f hf 0 B g q j p b id (xA j.d.l id) A n c 0 t.sk.A t.sk.n t.sk.c wx ⟨k.wk,hwf,hmay,hid,x,z,VJ hwf id,YH.Za k.wk ho,l,hs.ks,(ZE ho).2.2.2.1,hc,hn,by simpa using hl⟩).mono ?_;rintro e w' ⟨rfl,C,D,o,a,E⟩;exact⟨rfl,⟨C,D,o,k.trans a,E⟩,(a.but.block bx (FA h.mA) (k.wk.TM h.mA nA nA nA)).trans h.mA,a.ints k.wk h.own⟩
theorem Dq(h:Cx w B g q y v rs bx t lv left s wx)(hw:∀w',gA (MG g q v) w w'->MC kQ w' w'.heap.size t)(hs:zF t):
 fA 67 #[.slice t.sa.A t.sa.n t.sa.c] wx fun e w'=>∃A n c,e= .returned (.slice A n c)/\nB w' ⟨A,n,c⟩ (P3.pC t.attrs)/\Cx w B g q y v rs bx t lv left s w':=by
 obtain⟨j,l,b,k,e⟩:=h.run;have a:=hw wx k.but;have m:=(vH hs.mB).2;have o:=a.al;refine(P3.VT t.attrs t.sa.A t.sa.n t.sa.c wx a.al cA (UE a.ah)).mono ?_;rintro e w' ⟨u,rfl,d,f⟩;obtain⟨⟨A,n,c⟩,rfl,i⟩:=nB.own (show kA.Own w' wx.heap.size u (P3.pC t.attrs) from d);exact⟨A,n,c,rfl,i,h.below f⟩
theorem zQ(l:List P3.At)(A:jA)(n c:Nat)(h:Cx w B g q y v rs bx t lv left s wx)(hw:∀w',gA (MG g q v) w w'->MC kQ w' w'.heap.size t)(hs:zF t)(hl:nB wx ⟨A,n,c⟩ l)(hlm:P3.bC l=true):
 fA 68 #[.slice A n c,.slice t.sa.A t.sa.n t.sa.c] wx fun e w'=>∃A2 n2 c2,e= .returned (.slice A2 n2 c2)/\nB w' ⟨A2,n2,c2⟩ (P3.aC l t.attrs)/\nB w' ⟨A,n,c⟩ l/\eA wx w'/\Cx w B g q y v rs bx t lv left s w':=by
 obtain⟨p,r,f,k,e⟩:=h.run;have a:=hw wx k.but;have x:=(vH hs.mB).2;have i:=(vH hlm).2;have j:=a.al;have b:l.length=n:=hl.len;refine(P3.Kh l t.attrs A t.sa.A n t.sa.n c t.sa.c wx b a.al cA cA (UE hl.holds) (UE a.ah)).mono ?_;rintro e w' ⟨u,rfl,m,d⟩;obtain⟨⟨A2,n2,c2⟩,rfl,o⟩:=nB.own (show kA.Own w' wx.heap.size u (P3.aC l t.attrs) from m);exact⟨A2,n2,c2,rfl,o,hl.below d,d,h.below d⟩
end
def QC(f:Nat):Rec:=fun s i ks w=>DB f s i ks 0 w
def aw(f:Nat)(par beh:Int)(ids:List Int)(y:Rx)(rs:List RR)(ts:List WV)(i:Nat):Sg×List Int:=lC (QC f) par beh ids (ids.map (dB y.d.l)) (oA ts) (y.d,rs.map (·.r)) i
def tk(ids:List Int)(y:Rx)(ts:List WV):List Int:=(foldM (ids.map (dB y.d.l)) (oA ts)).take
theorem JF(ts:List WV):(oA ts).length=ts.length:=by rw[IB];simp
theorem wH(ids:List Int)(y:Rx)(ts:List WV):(tk ids y ts).length=ts.length:=by
 unfold tk;rw[take_len,JF]
section
variable{f:Nat}{par beh:Int}{ids:List Int}{y:Rx}{v:Value}{rs:List RR}{ts:List WV}{i:Nat}{w:World}{C B g q:Nat}{A A':jA}{n c n' c':Nat}
theorem xL(hi:i<ts.length):(oA ts)[i]'(by rw[JF];exact hi)=er ts[i]:=by simp[IB]
theorem Uo(hi:i<ts.length):aw f par beh ids y rs ts (i+1)=PD (QC f) par beh ids (er ts[i]) ((tk ids y ts)[i]'(by rw[wH];exact hi)) (aw f par beh ids y rs ts i):=by
 unfold aw;rw[sJ (by rw[JF];exact hi),xL hi];rfl
theorem IU:∀{l:List PW} {i:Nat} (hi:i<l.length),eB (l.take i)+jE l[i]<=eB l
 |[],i,hi=>by simp at hi
 |x:: r,0,_=>by rw[List.take_zero,eB,eB,List.getElem_cons_zero];omega
 |x:: r,i+1,hi=>by
  have:=IU (l:=r) (i:=i) (by simpa using hi);rw[List.take_succ_cons,eB,eB,List.getElem_cons_succ];omega
theorem Qb{a e:Int}{b c d:Nat}(h1:a<=e+(b:Nat))(h2:b+c<=d)(h3:e+(d:Nat)<=90000):a+(c:Nat)<=90000:=by omega
theorem S9{a b c d e:Nat}(h1:a<=e+2000*b)(h2:b+c<=d)(h3:e+2000*(d+1)<=800000):a+2000*c+2000<=800000:=by omega
theorem U9{a d e:Nat}(h1:a<=e+2000*d)(h3:e+2000*(d+1)<=800000):a<=800000:=by omega
structure Fc(y:Rx)(rs:List RR)(par:Int)(ids:List Int)(p:Sg×List Int)(t:WV):Prop where
 lv:Lv (y.d,rs.map (·.r)) par ids p.1
 may:pG p.1.1
 sub:∀c∈p.2,c∈ids
 IC:p.2.Nodup
 len:p.2.length<=200
 num:p.1.1.n+(jE (er t):Nat)<=90000
 log:p.1.2.length+2000*jE (er t)+2000<=800000
 EG:jE (er t)<=1000
theorem rl(beh:Int)(pre:JI w C B g q y v rs par ids A n c A' n' c' ts)(hi:i<ts.length):Fc y rs par ids (aw f par beh ids y rs ts i) ts[i]:=by
 have b:i<(oA ts).length:=(by rw[JF];exact hi);have h:=SI (want:=oA ts) (beh:=beh) (old:=ids.map (dB y.d.l)) (XG f) pre.wf pre.p0 pre.kids pre.IC DA i cA;have e:=vO (want:=oA ts) (beh:=beh) (old:=ids.map (dB y.d.l)) (XG f) (kM f) pre.wf pre.p0 pre.kids pre.IC pre.SB DA i cA;have k:=dN (want:=oA ts) (beh:=beh) (par:=par) (ids:=ids) (old:=ids.map (dB y.d.l)) YG (wO YG f) (s:=(y.d,rs.map (·.r))) pre.may i cA;have d:=IU b;rw[xL hi] at d;have l:=pre.num;have m:=pre.len;have u:=pre.EG;have o:(y.d,rs.map (·.r)).2.length=rs.length:=DA;have x:(y.d,rs.map (·.r)).1.n=y.n:=rfl;have p:(aw f par beh ids y rs ts i).1.1.n<=y.n+(eB ((oA ts).take i):Nat):=e.1;have t:(aw f par beh ids y rs ts i).1.2.length<=rs.length+2000*eB ((oA ts).take i):=by
  have:=e.2;rw[o] at this;exact this
 have a:(aw f par beh ids y rs ts i).2=iE ids (foldM (ids.map (dB y.d.l)) ((oA ts).take i)).left:=h.left;refine⟨h.lv,k,fun c j=>?_,?_,?_,?_,?_,?_⟩
 ·rw[a] at j;exact(uG _ _).subset j
 ·rw[a];exact(uG _ _).nodup pre.IC
 ·rw[a];exact Nat.le_trans (uG _ _).length_le pre.SB
 ·exact Qb p d l
 ·exact S9 t d m
 ·omega
theorem sl(beh:Int)(pre:JI w C B g q y v rs par ids A n c A' n' c' ts){p:Sg×List Int}{t:WV}(h:Fc y rs par ids p t){a:Int}(ha:a∈ids)(k:Nat):
 Lv (y.d,rs.map (·.r)) par ids (UB p.1 par p.2 beh a k).1/\pG (UB p.1 par p.2 beh a k).1.1/\(UB p.1 par p.2 beh a k).1.1.n=p.1.1.n/\(UB p.1 par p.2 beh a k).1.2.length<=p.1.2.length+201:=by
 obtain⟨b,d⟩:=IT (par:=par) h.lv.wf p.2 beh a k;have:=h.len;exact⟨h.lv.move pre.wf h.sub beh a k ha,xU YG h.may _ _ _ _ _,b,by omega⟩
theorem xl(beh:Int)(pre:JI w C B g q y v rs par ids A n c A' n' c' ts)(hi:i<ts.length)(h0:0<=(tk ids y ts)[i]'(by rw[wH];exact hi)):
 ∃(j:Nat) (a:Int),(tk ids y ts)[i]'(by rw[wH];exact hi)=(j:Int)/\ids[j]? = some a/\a∈(aw f par beh ids y rs ts i).2/\a∈ids:=by
 have d:i<(oA ts).length:=(by rw[JF];exact hi);have h:=SI (want:=oA ts) (beh:=beh) (old:=ids.map (dB y.d.l)) (XG f) pre.wf pre.p0 pre.kids pre.IC DA i cA;obtain⟨j,a,k,e,l,_⟩:=NK (old:=ids.map (dB y.d.l)) (ids:=ids) DA d h0;refine⟨j,a,k,e,?_,List.mem_of_getElem? e⟩;have b:(aw f par beh ids y rs ts i).2=iE ids (foldM (ids.map (dB y.d.l)) ((oA ts).take i)).left:=h.left;rw[b];exact VN l e
theorem Fq:xD (aw f par beh ids y rs ts ts.length).2 (aw f par beh ids y rs ts ts.length).1=DB (f+1) (y.d,rs.map (·.r)) par ids beh (oA ts):=by
 rw[jJ,JF];rfl
end
theorem Kf(l:List Int)(i:Int)(s:Sg):xD (l++[i]) s=GA (xD l s) (FE i):=by
 unfold xD;rw[List.foldl_append];rfl
theorem J2:∀(l:List Int) {s:Sg},WF s.1->WF (xD l s).1
 |[],_,h=>h
 |i:: l,s,h=>J2 l (s:=GA s (FE i)) (fE h _)
theorem Vo{f:Nat}{par beh:Int}{ids:List Int}{y:Rx}{v:Value}{rs:List RR}{ts:List WV}{w:World}{C B g q:Nat}{A A':jA}{n c n' c':Nat}(pre:JI w C B g q y v rs par ids A n c A' n' c' ts):
 WF (aw f par beh ids y rs ts ts.length).1.1/\(aw f par beh ids y rs ts ts.length).1.1.n<=90000/\(aw f par beh ids y rs ts ts.length).1.2.length<=800000/\(aw f par beh ids y rs ts ts.length).2.length<=200:=by
 have h:=SI (want:=oA ts) (beh:=beh) (old:=ids.map (dB y.d.l)) (XG f) pre.wf pre.p0 pre.kids pre.IC DA ts.length (by rw[JF];exact Zl);have b:=vO (want:=oA ts) (beh:=beh) (old:=ids.map (dB y.d.l)) (XG f) (kM f) pre.wf pre.p0 pre.kids pre.IC pre.SB DA ts.length (by rw[JF];exact Zl);have a:(aw f par beh ids y rs ts ts.length).2=iE ids (foldM (ids.map (dB y.d.l)) ((oA ts).take ts.length)).left:=h.left;have d:(y.d,rs.map (·.r)).2.length=rs.length:=DA;have e:(oA ts).take ts.length=oA ts:=(by rw[<-JF,List.take_length]);rw[e] at b;have j:(aw f par beh ids y rs ts ts.length).1.1.n<=y.n+(eB (oA ts):Nat):=b.1;have i:(aw f par beh ids y rs ts ts.length).1.2.length<=rs.length+2000*eB (oA ts):=by
  have:=b.2;rw[d] at this;exact this
 refine⟨h.lv.wf,by have:=pre.num;omega,U9 i pre.len,?_⟩;rw[a];exact Nat.le_trans (uG _ _).length_le pre.SB
def oV(w:World)(B g q:Nat)(y:Rx)(v:Value)(rs:List RR)(f:Nat)(par beh:Int)(ids:List Int)(ts:List WV)(n':Nat)(s15 s16:Value)(wr:World):Prop:=
 ∃(i:Nat) (A1:jA) (n1 c1:Nat),i<=n'/\s16 = aA i/\s15= .slice A1 n1 c1/\Hid (kI.Own wr 0 (.slice A1 n1 c1) (aw f par beh ids y rs ts i).2)/\Hid (∃y' v' rs',nC w B g q y v y' v' rs' wr/\(y'.d,rs'.map (·.r))=(aw f par beh ids y rs ts i).1)
def Rb(w:World)(B g q:Nat)(y:Rx)(v:Value)(rs:List RR)(left:List Int)(S:Sg)(nL:Nat)(lv:Value)(s23:Value)(wr:World):Prop:=
 ∃(j:Nat),j<=nL/\s23 = aA j/\Hid (∃y' v' rs',nC w B g q y v y' v' rs' wr/\(y'.d,rs'.map (·.r))=xD (left.take j) S)/\Hid (kI.Own wr 0 lv left)
theorem PH{w wx:World}{B g q bx:Nat}{y:Rx}{v:Value}{rs:List RR}{f:Nat}{par beh:Int}{ids:List Int}{ts:List WV}{n' i:Nat}{t:WV}{A1:jA}{n1 c1:Nat}{p:Sg×List Int}(hi:i<n')(hn:ts.length=n')(h:Cx w B g q y v rs bx t (.slice A1 n1 c1) p.2 p.1 wx)
 (hp:PD (QC f) par beh ids (er (ts[i]'cA)) ((tk ids y ts)[i]'(by rw[wH];omega)) (aw f par beh ids y rs ts i)=p) (k:Value) (hk:k = aA (i+1:Nat)):oV w B g q y v rs f par beh ids ts n' (.slice A1 n1 c1) k wx:=by
 have e:aw f par beh ids y rs ts (i+1)=p:=(Uo cA).trans hp;exact⟨i+1,A1,n1,c1,hi,hk,rfl,Zh (by rw[e];exact h.own),Zh (by rw[e];exact h.run)⟩
end P19
namespace P7
open Go.RowKit Kd P4 P5
attribute [local go_sem ↓] Go.wp_at_zero Go.wp_at_succ
def Gr(w:World)(r:Rc)(e:Ending)(w':World):Prop:=∃A n c,e= .returned (.agg (JA r A n c))/\nB w' ⟨A,n,c⟩ r.attrs/\eA w w'
theorem lO(r:Rc)(A:jA)(n c:Nat)(w:World)(hn:r.attrs.length=n)(hn2:n<=1000000)(hz:A=none->c=0/\n=0)(H:kA.pA w w.heap.size A r.attrs):fA 36 #[.agg (JA r A n c)] w (Gr w r):=by
 have p:Hid (eA w ((w.alloc (.cells (JA r A n c) 87)).alloc (.cells #[aA 0,aA 0,aA 0,aA 0,tA,tA,tA,vA] 87))):=Zh ((Zb _ _).alloc DA _);have q:Hid (bB ((w.alloc (.cells (JA r A n c) 87)).alloc (.cells #[aA 0,aA 0,aA 0,aA 0,tA,tA,tA,vA] 87)) w.heap.size r A n c):=Zh (oB (bB.new w r A n c));have x:Hid (((w.alloc (.cells (JA r A n c) 87)).alloc (.cells #[aA 0,aA 0,aA 0,aA 0,tA,tA,tA,vA] 87)).heap[w.heap.size+1]? = some (.cells #[aA 0,aA 0,aA 0,aA 0,tA,tA,tA,vA] 87 (0,0))):=Zh (lD DA);have HN:=Zh hn;have HZ:=Zh hz;have HH:=Zh H;clear hn hz H;go_enter func36,ntmps36;go_upto_region 1 with fail;generalize (w.alloc (.cells (JA r A n c) 87)).alloc (.cells #[aA 0,aA 0,aA 0,aA 0,tA,tA,tA,vA] 87)=W at p q x|-;have t:=q.c7;go_wp2_with fail;refine(bS r.attrs A n c W HN hn2 HZ (HH.on p)).mono ?_;rintro e o ⟨a,b,f,rfl,Y,y⟩;have B:=Zh Y;have Z:=Zh (p.trans (y.mono p.size));have u:=Zh (q.below y q.lt);have Z2:Hid (o.heap[w.heap.size+1]? = some (.cells #[aA 0,aA 0,aA 0,aA 0,tA,tA,tA,vA] 87 (0,0))):=Zh ((y.block _ (FA x)).trans x);clear Y y t q x;have t:=u.c7;have f7:o.frozen? ⟨w.heap.size,7,none⟩=false:=(by have z:=u.out;unfold bB at z;simp[World.frozen?,z]);go_upto_region 2 with fail;have C:=u.out;unfold bB at C;have k:Hid (bB (o.setCell ⟨w.heap.size,7,none⟩ (.slice a b f)) w.heap.size r a b f):=Zh (by unfold bB;exact heap_set C 7 _);have j:Hid ((o.setCell ⟨w.heap.size,7,none⟩ (.slice a b f)).heap[w.heap.size+1]? = some (.cells #[aA 0,aA 0,aA 0,aA 0,tA,tA,tA,vA] 87 (0,0))):=Zh ((Below.heap_setCell _ _ _ _ DA).trans Z2);have B3:Hid (eA w (o.setCell ⟨w.heap.size,7,none⟩ (.slice a b f))):=Zh (Z.setCell DA _);have D:Hid (kA.Own (o.setCell ⟨w.heap.size,7,none⟩ (.slice a b f)) w.heap.size (.slice a b f) r.attrs):=Zh ((B.sB fun i E=>Below.heap_setCell _ _ _ _ (by rintro rfl;obtain⟨d,F⟩:=B.ty E;exact RA F u nA rfl)).dE p.size);clear t f7 p Z u Z2 B C;generalize o.setCell ⟨w.heap.size,7,none⟩ (.slice a b f)=W3 at k j B3 D|-;have a0:=k.c0;have a1:=k.c1;have a2:=k.c2;have a3:=k.c3;have a4:=k.c4;have a5:=k.c5;have a6:=k.c6;have t:=k.c7;have z0:=IA 0 j;have G:=IA 1 j;have I:=IA 2 j;have J:=IA 3 j;have K:=IA 4 j;have L:=IA 5 j;have M:=IA 6 j;have N:=IA 7 j;have l:∀i,W3.frozen? ⟨w.heap.size+1,i,none⟩=false:=fun i=>by have z:=j.out;simp[World.frozen?,z]
 have O:=l 0;have P:=l 1;have Q:=l 2;have R:=l 3;have S:=l 4;have T:=l 5;have U:=l 6;have V:=l 7;clear l;go_wp2_with fail;have m:Hid ((((((((((W3.setCell ⟨w.heap.size+1,0,none⟩ (aA r.op)).setCell ⟨w.heap.size+1,1,none⟩ (aA r.id)).setCell ⟨w.heap.size+1,2,none⟩ (aA r.par)).setCell ⟨w.heap.size+1,3,none⟩ (aA r.rA)).setCell ⟨w.heap.size+1,4,none⟩ (bA r.tag)).setCell ⟨w.heap.size+1,5,none⟩ (bA r.txt)).setCell ⟨w.heap.size+1,6,none⟩ (bA r.key)).setCell ⟨w.heap.size+1,7,none⟩ (.slice a b f))).heap[w.heap.size+1]? = some (.cells (JA r a b f) 87 (0,0))):=Zh (heap_set (heap_set (heap_set (heap_set (heap_set (heap_set (heap_set (heap_set (j) 0 _) 1 _) 2 _) 3 _) 4 _) 5 _) 6 _) 7 _);have B4:Hid (eA w (((((((((W3.setCell ⟨w.heap.size+1,0,none⟩ (aA r.op)).setCell ⟨w.heap.size+1,1,none⟩ (aA r.id)).setCell ⟨w.heap.size+1,2,none⟩ (aA r.par)).setCell ⟨w.heap.size+1,3,none⟩ (aA r.rA)).setCell ⟨w.heap.size+1,4,none⟩ (bA r.tag)).setCell ⟨w.heap.size+1,5,none⟩ (bA r.txt)).setCell ⟨w.heap.size+1,6,none⟩ (bA r.key)).setCell ⟨w.heap.size+1,7,none⟩ (.slice a b f)))):=Zh (Below.setCell (Below.setCell (Below.setCell (Below.setCell (Below.setCell (Below.setCell (Below.setCell (Below.setCell (B3) DA _) DA _) DA _) DA _) DA _) DA _) DA _) DA _);have O4:Hid (kA.Own (((((((((W3.setCell ⟨w.heap.size+1,0,none⟩ (aA r.op)).setCell ⟨w.heap.size+1,1,none⟩ (aA r.id)).setCell ⟨w.heap.size+1,2,none⟩ (aA r.par)).setCell ⟨w.heap.size+1,3,none⟩ (aA r.rA)).setCell ⟨w.heap.size+1,4,none⟩ (bA r.tag)).setCell ⟨w.heap.size+1,5,none⟩ (bA r.txt)).setCell ⟨w.heap.size+1,6,none⟩ (bA r.key)).setCell ⟨w.heap.size+1,7,none⟩ (.slice a b f))) w.heap.size (.slice a b f) r.attrs):=Zh (D.sB fun i E=>by
  have X:i≠w.heap.size+1:=by
   rintro rfl;obtain⟨d,F⟩:=D.ty E;exact RA F j nA rfl
  exact MR (w.heap.size+1) X [aA r.op,aA r.id,aA r.par,aA r.rA,bA r.tag,bA r.txt,bA r.key,.slice a b f] 0 W3)
 clear a0 a1 a2 a3 a4 a5 a6 t z0 G I J K L M N O P Q R S T U V;generalize ((((((((W3.setCell ⟨w.heap.size+1,0,none⟩ (aA r.op)).setCell ⟨w.heap.size+1,1,none⟩ (aA r.id)).setCell ⟨w.heap.size+1,2,none⟩ (aA r.par)).setCell ⟨w.heap.size+1,3,none⟩ (aA r.rA)).setCell ⟨w.heap.size+1,4,none⟩ (bA r.tag)).setCell ⟨w.heap.size+1,5,none⟩ (bA r.txt)).setCell ⟨w.heap.size+1,6,none⟩ (bA r.key)).setCell ⟨w.heap.size+1,7,none⟩ (.slice a b f))=g at m B4 O4|-;have z0:=IA 0 m;have G:=IA 1 m;have I:=IA 2 m;have J:=IA 3 m;have K:=IA 4 m;have L:=IA 5 m;have M:=IA 6 m;have N:=IA 7 m;refine bodyPost_ret (v:=.agg (JA r a b f)) (by simp[results,results36,go_sem,z0,G,I,J,K,L,M,N]) rfl ⟨a,b,f,rfl,?_,B4⟩;obtain⟨s,hs,ha⟩:=nB.own O4;injection hs with e1 e2 e3;subst e1;subst e2;subst e3;exact ha
theorem jL(v:jA)(w:World):fA 9 #[.pointer v] w fun e w'=>e= .returned (iA w.heap.size)/\w'=w.alloc (.cells #[.pointer v,vA] 74):=by
 go_enter func9,ntmps9;go_wp2_with fail;go_ret;exact⟨rfl,rfl⟩
variable{B p g:Nat}{x:Dx}{vd:Value}{rs:List RR}
theorem Lg.new{w:World}(hB:B<=w.heap.size)(p:Nat):Lg (w.alloc (.cells #[iA p,vA] 74)) B w.heap.size p (vA) []:=
 ⟨heap_alloc_new w _,hB,Kind.Own.nil _ _ _,fun _ h=>by cases h⟩
theorem Wa{w6a w7:World}{v7:Value}{a:RR}(h:Lg w6a B g p vd rs)(hg:w6a.grownBy w7 vd.ownBlock)(ho:kR.Own w7 B v7 (rs++[a]))(ha:WH w6a a):
 Lg (w7.setCell (dA g 1) v7) B g p v7 (rs++[a])/\gA (nG g vd) w6a (w7.setCell (dA g 1) v7):=by
 have n:gA (fun k=>vd.ownBlock=some k) w6a w7:=gA.sG hg (fun i f _=>f);have j:vd.ownBlock≠some g:=by
  intro e;obtain⟨d,l⟩:=h.own.ty e;exact RA l h.mA nA rfl
 have o:w7.heap[g]? = some (.cells #[iA p,vd] 74 (0,0)):=(n.block g (FA h.mA) j).trans h.mA;have m:gA (nG g vd) w6a (w7.setCell (dA g 1) v7):=gA.setCell (n.mono fun _ _ f=> .inr f) (fun _=> .inl rfl) _;refine⟨⟨heap_set o 1 v7,h.base,ho.sB fun i f=>Below.heap_setCell _ _ _ _ ?_,fun b c=>?_⟩,m⟩
 ·rintro rfl;obtain⟨d,l⟩:=ho.ty f;exact RA l o nA rfl
 ·rcases List.mem_append.1 c with c|c
  ·exact⟨(h.zI b c).mB.but m h.eD,(h.zI b c).SB⟩
  ·rw[List.mem_singleton] at c;subst c;exact⟨ha.mB.but m h.eD,ha.SB⟩
def Ec(w:World)(B g p:Nat)(x:Dx)(vd:Value)(rs:List RR)(r:Rc)(c':Int)(e:Ending)(w':World):Prop:=
 e= .returned (UA c')/\∃x' vd' rs',pD w B g p x vd x' vd' rs' w'/\x'.d=(VA x.d r).2/\rs'.map (·.r)=(if c'=0 then rs.map (·.r)++[r] else rs.map (·.r))/\rs'.length<=rs.length+1
theorem uq{c':Int}(r:Rc)(A:jA)(n c:Nat)(w:World)(hc:(VA x.d r).1=c')(hwf:WF x.d)(hn:x.n<=100000)(ha:∀w9,Below B w w9->XI w9 A n c r)(hl:rs.length<=1000000)(h:Dc w B p x)(l:Lg w B g p vd rs):
 fA 87 #[iA g,.agg (JA r A n c)] w (Ec w B g p x vd rs r c'):=by
 have Y:Hid (eA w (w.alloc (.cells (JA r A n c) 87))):=Zh (Zb _ _);have C:=Zh (bB.new w r A n c);have HC:=Zh hc;have a7:=Zh hwf;have HA:=Zh ha;have H:=Zh h;have L:=Zh l;have q1:=FF;have q2:=TF;have a8:B<=w.heap.size:=(by have:=h.base;have:=h.lt (.inl rfl:UC p x p);omega);clear hc hwf ha h l;go_enter func87,ntmps87;go_upto_region 1 with fail;generalize w.alloc (.cells (JA r A n c) 87)=W at Y C|-;have H1:=Zh (H.below Y);have L1:=Zh (L.below Y);have d0:=L1.c0;have b0:=C.c0;have b1:=C.c1;have b2:=C.c2;have b3:=C.c3;have b4:=C.c4;have b5:=C.c5;have M:=C.c6;have b7:=C.c7;go_wp2_with fail;go_region_held3 (fun w'=>w'.cell? (dA g 0)=some (iA p)/\w'.cell? ⟨w.heap.size,0,none⟩=some (aA r.op)/\w'.cell? ⟨w.heap.size,1,none⟩=some (aA r.id)/\w'.cell? ⟨w.heap.size,2,none⟩=some (aA r.par)/\w'.cell? ⟨w.heap.size,3,none⟩=some (aA r.rA)/\w'.cell? ⟨w.heap.size,4,none⟩=some (bA r.tag)/\w'.cell? ⟨w.heap.size,5,none⟩=some (bA r.txt)/\w'.cell? ⟨w.heap.size,6,none⟩=some (bA r.key)/\w'.cell? ⟨w.heap.size,7,none⟩=some (.slice A n c)) (first|go_keep|exact K5) ((first
  |(go_at_call 117;refine(u9 r A n c _ HC a7 hn (HA _ ((PA Y _).mono a8)) (by exact H1.drewN _)).mono ?_;rintro e D ⟨rfl,x5,d5,a0⟩;have N:=Zh ((L1.drewN _).AI (H1.drewN _) d5);have f:=Zh (bB.AI (w:=W.drewN _) C (H1.drewN _) d5);have K5:=And.intro N.c0 (And.intro f.c0 (And.intro f.c1 (And.intro f.c2 (And.intro f.c3 (And.intro f.c4 (And.intro f.c5 (And.intro f.c6 f.c7)))))));have D5:Hid (oC W B p x x5 D):=Zh ((oC.sC H1 (PA Ze _)).trans d5);have a1:=Zh a0;clear d5 a0)
  |fail))
 have Z:=N;have q:Hid (pD w B g p x vd x5 vd rs D):=Zh ⟨D5.dc,Z,(gA.tB Y _).trans (D5.but.mono fun _ _ s=> .inl s) (fun _ _ s=>s),(fun i s=>(D5.ft i s).imp id (fun e=>by have:=Y.size;omega)),fun i s=> .inl s⟩;clear d0 b0 b1 b2 b3 b4 b5 M b7 N;by_cases E:c'=0
 ·subst E;rw[mK];obtain⟨A2,n2,c2,F,a2,ae,af,a9,aa⟩:=mG Z.own;have t:=Zh F;have ag:=Zh a2;have j:=Zh (HA D (q.AB H L)).at_;have ab:Hid (A=none->c=0/\n=0):=Zh (fun e=>by have:=j.nil e;have:=j.cap;omega);have d1:=Z.c1;rw[F] at d1;have f1:=Z.frozen 1;have ah:g<D.heap.size:=FA Z.mA;have ai:w.heap.size<D.heap.size:=f.lt;have b0:=f.c0;have b1:=f.c1;have b2:=f.c2;have b3:=f.c3;have b4:=f.c4;have b5:=f.c5;have M:=f.c6;have b7:=f.c7;have O:Hid (∀k,(Value.slice A2 n2 c2).ownBlock=some k->k≠g/\k<w.heap.size):=Zh (by
   rw[<-F];intro k u;refine⟨?_,L.lt (.inr u)⟩;rintro rfl;obtain⟨d,hd⟩:=L.own.ty u;exact RA hd L.mA nA rfl)
  clear F a2 aa a9;go_upto_region 6 with fail;refine Tl.GH (S:=(fun w'=>w'.cell? (dA g 1)=some (.slice A2 n2 c2)/\w'.cell? ⟨w.heap.size,0,none⟩=some (aA r.op)/\w'.cell? ⟨w.heap.size,1,none⟩=some (aA r.id)/\w'.cell? ⟨w.heap.size,2,none⟩=some (aA r.par)/\w'.cell? ⟨w.heap.size,3,none⟩=some (aA r.rA)/\w'.cell? ⟨w.heap.size,4,none⟩=some (bA r.tag)/\w'.cell? ⟨w.heap.size,5,none⟩=some (bA r.txt)/\w'.cell? ⟨w.heap.size,6,none⟩=some (bA r.key)/\w'.cell? ⟨w.heap.size,7,none⟩=some (.slice A n c))) (by kernel_rfl) 11 _ rfl rfl rfl (by kernel_rfl) (by go_keep) (fun hHeld=>?_);simp only[List.setIfInBounds_toArray,List.set_cons_zero,List.set_cons_succ,Tl.idle];refine Zn 0 ?_;refine Zn 1 ?_;refine Zn 2 ?_;refine Zn 3 ?_;refine Zn 4 ?_;refine Zn 5 ?_;refine Zr [6] ?_;refine AllReadyH.cons rfl (fun K hK=>?_) ?_
  ·go_simp;go_at_call 36;refine(lO r A n c _ j.len j.SB ab (by exact j.holds)).mono ?_;rintro e w6 ⟨P,Q,R,rfl,a3,M⟩;have a4:=Zh a3;have B6:Hid (eA D w6):=Zh (by first|exact M|exact(Below.drew Ze).trans M|exact(PA Ze _).trans M);have y:=Zh (f.below B6 f.lt);have z:=Zh (Z.below B6);have d6:=z.c1;rw[t.out] at d6;have f6:=z.frozen 1;clear a3 M;go_wp2_with fail;refine hK _ _ ?_ (fun hHeld=>?_)
   ·exact⟨d6,y.c0,y.c1,y.c2,y.c3,y.c4,y.c5,y.c6,y.c7⟩
   clear hK K;(try simp only[Zs]);refine Zr [7] ?_;refine AllReadyH.cons rfl (fun K hK=>?_) ?_
   ·go_simp;refine hK _ _ ?_ (fun hHeld=>?_)
    ·go_keep
    clear hK K;(try simp only[Zs]);refine Zr [8] ?_;refine AllReadyH.cons rfl (fun K hK=>?_) ?_
    ·refine kR.tG rfl (.tmp 25) (.tmp 28) rfl (v:=.slice A2 n2 c2) (l:=rs) (m:=[⟨r,⟨P,Q,R⟩⟩]) (B:=B) (A:=some ⟨w6.heap.size,0,none⟩) (n:=1) (c:=1) rfl (by have:=z.own;rw[t.out] at this;exact this.alloc _) rfl rfl RB (Kind.pA.lit (heap_alloc_new _ _) rfl) AA (by have:=z.ge (.inl rfl:nG g vd g);have:=FA z.mA;simp;omega) ?_;intro v7 T o b J;obtain⟨A7,n7,c7,rfl,_,_,_,_,_⟩:=o.slice;have O7:=Zh o;have G7:=Zh b;have a5:=Zh J;have e7:T.cell? (dA g 1)=some (.slice A2 n2 c2):=(cell_of_row T g 1 _ _ (0,0) ((b.block g (by have:=FA z.mA;simp;omega) (fun e=>((O g e.symm).1 rfl).elim)).trans (oB z.mA))).trans (by rw[t.out];rfl);have G:Hid (bB T w.heap.size r A n c):=Zh ((b.block _ (by have:=y.lt;simp;omega) (fun e=>by have:=(O _ e.symm).2;omega)).trans (oB y));have f7:T.frozen? (dA g 1)=false:=(by have hb:=(b.block g (by have:=FA z.mA;simp;omega) (fun e=>((O g e.symm).1 rfl).elim)).trans (oB z.mA);simp[World.frozen?,hb]);clear o b J;refine hK _ _ ?_ (fun hHeld=>?_)
     ·exact⟨e7,G.c0,G.c1,G.c2,G.c3,G.c4,G.c5,G.c6,G.c7⟩
     clear hK K;(try simp only[Zs]);refine Zn 9 ?_;refine Zn 10 ?_;refine Zn 11 ?_;refine wpAnyH_done (by kernel_rfl) ?_ _;intro K hK;go_simp;refine hK _ _ ?_;clear hK K;have I:=z.below (Ze.alloc Zl (.cells (JA r P Q R) 87));have g7:World.grownBy (w6.alloc (.cells (JA r P Q R) 87)) T vd.ownBlock:=(by rw[t.out];exact G7);have U:nB (w6.alloc (.cells (JA r P Q R) 87)) ⟨P,Q,R⟩ r.attrs:=a4.below (Zb _ _);obtain⟨l8,b8⟩:=Wa (a:=⟨r,⟨P,Q,R⟩⟩) I g7 O7 ⟨U,by have h1:=j.len;have h2:=j.SB;have h3:=U.len;simp only at h3|-;omega⟩;have V:eA D (w6.alloc (.cells (JA r P Q R) 87)):=B6.alloc B6.size _;have X:=q.dc.below V;have a6:=Zh (X.but b8 (fun k u hf=>I.vV X hf u) I.eD);have L8:=Zh l8;have B8:Hid (gA (fun k=>UC p x k\/nG g vd k) w (T.setCell (dA g 1) (.slice A7 n7 c7))):=Zh ((q.but.trans (gA.tB V (fun _=>False)) (fun _ _ s=>s.elim)).trans b8 (fun _ _ s=> .inr s));have ac:Hid (∀k,(Value.slice A7 n7 c7).ownBlock=some k->vd.ownBlock=some k\/w.heap.size<=k):=Zh (fun k u=>by
      rcases a5 with e|e
      ·rw[e,<-t.out] at u;exact .inl u
      ·rw[e] at u;injection u with u;have h1:=B6.size;simp at u;exact .inr cA)
     clear I g7 U l8 b8 V X e7 f7 G d6 f6 z y B6 a4 O7 G7 a5;generalize T.setCell (dA g 1) (.slice A7 n7 c7)=W8 at a6 L8 B8|-;go_wp2_with fail;go_ret;exact⟨by rw[mK];rfl,x5,_,_,⟨a6,L8,B8,q.ft,ac⟩,a1,by simp,by simp⟩
    exact AllReadyH.nil
   exact AllReadyH.nil
  exact AllReadyH.nil
 ·have he:UA c'= .iface 56 (aA c'):=(by unfold UA;rw[if_neg E]);have ad:=Zh E;rw[he];clear E;go_wp2_with fail;go_ret;refine⟨?_,x5,vd,rs,q,a1,by rw[if_neg ad.out],by omega⟩;rw[he];rfl
theorem Qk{l:List RR}{k:Nat}{a:RR}(hk:k<l.length)(h:a.r=l[k].r):(l.set k a).map (·.r)=l.map (·.r):=by
 apply List.ext_getElem
 ·simp
 ·intro i b c;simp only[List.getElem_map,List.getElem_set];split
  ·rename_i e;subst e;exact h
  ·rfl
theorem Fo{w6:World}{B g1 n c k:Nat}{l:List RR}{a:RR}(ho:kR.Own w6 B (.slice (some (dA g1 0)) n c) l)(hk:k<l.length)(hr:∀b∈l,WH w6 b)(ha:WH w6 a):
 kR.Own (w6.setCells g1 (k*8) a.cells) B (.slice (some (dA g1 0)) n c) (l.set k a)/\(∀b∈l.set k a,WH (w6.setCells g1 (k*8) a.cells) b)/\gA (fun i=>i=g1) w6 (w6.setCells g1 (k*8) a.cells):=by
 have e:gA (fun i=>i=g1) w6 (w6.setCells g1 (k*8) a.cells):=gA.setCells (S:=fun i=>i=g1) (gA.refl _ _) (fun _=>rfl) _ _;have m:qD w6 (fun i=>i=g1):=by
  rintro i o r rfl p;obtain⟨d,q⟩:=ho.ty (g:=i) rfl;exact RA p q nA rfl
 refine⟨Kind.Own.Wb (K:=kR) ho hk a,fun b f=>?_,e⟩;rcases wM f with rfl|⟨j,hj,_,rfl⟩
 ·exact⟨ha.mB.but e m,ha.SB⟩
 ·exact⟨(hr _ (List.getElem_mem hj)).mB.but e m,(hr _ (List.getElem_mem hj)).SB⟩
def Yb(w:World)(rs:List RR)(e:Ending)(w':World):Prop:=∃A n c rs',e= .returned (.slice A n c)/\kR.Own w' w.heap.size (.slice A n c) rs'/\rs'.map (·.r)=rs.map (·.r)/\(∀a∈rs',WH w' a)/\eA w w'
theorem DU(w:World)(hl:rs.length<=1000000)(l:Lg w B g p vd rs):fA 14 #[iA g] w (Yb w rs):=by
 obtain⟨A2,n2,c2,F,G,H,I,J,K⟩:=mG l.own;have x:=Zh G;have Y:=Zh J;have Z:=Zh K;have L:=Zh l;have d1:=l.c1;rw[F] at d1;have ap:n2<=1000000:=cA;clear F G K J l H I;go_enter func14,ntmps14;go_wp2_with fail;refine(sd rs A2 n2 c2 w x cA Y Z).mono ?_;rintro e w1 ⟨A1,v,O,rfl,o1,b1⟩;have O1:=Zh o1;have B1:=Zh b1;have R1:=Zh (L.below b1).zI;obtain⟨_,_,_,a8,M,_,a9,_⟩:=mG o1;injection a8 with e1 e2 e3;subst e2;obtain rfl:v=n2:=by rw[<-M];exact x
 clear M a9 e1 e3 o1 b1;go_wp2_with fail;go_loopw [13] (fun s wr=>∃(k:Nat) (l:List RR),k<=v/\s = aA k/\Hid (l.length=v)/\Hid (l.map (·.r)=rs.map (·.r))/\Hid (kR.Own wr w.heap.size (.slice A1 v O) l)/\Hid (∀a∈l,WH wr a)/\Hid (eA w wr)) (fun s _=>v-(intOf s).toNat)
 case atStart=>exact⟨0,rs,by omega,rfl,x,Zh rfl,O1,R1,B1⟩
 case round=>
  obtain⟨k,l,hk,rfl,HL,HM,P,Q,R⟩:=hrel;by_cases aq:k<v
  ·have n:k<l.length:=(uA HL.out);rcases P.form with⟨_,hl0⟩|⟨g1,c1',cur,y,_,hBg,hlt,hh,zC,cC,hcs,_⟩
   ·subst hl0;simp at n
   injection y with e1 e2 e3;subst e1;subst e3;obtain⟨_,_,_,y,_,_,_,_,q⟩:=mG P;injection y with e1 e2' e3';subst e1;subst e2';subst e3';obtain⟨b,o,he,_,g0,z,g2,g3,g4,g5,g6,g7⟩:=UJ q n;injection he with he;injection he with S h2;subst S;subst h2;have m:=Zh (Q _ (List.getElem_mem n));have HD:Hid (∀a:RR,a.r=l[k].r->(l.set k a).map (·.r)=rs.map (·.r)):=Zh (fun a T=>by rw[Qk n T];exact HM);generalize l[k]=d at g0 z g2 g3 g4 g5 g6 g7 m HD;simp only[Nat.zero_add] at g0 z g2 g3 g4 g5 g6 g7;have aa:w.heap.size<=g1:=hBg;have ao:g1<wr.heap.size:=hlt;clear q hh zC cC hcs e2 hBg;go_upto_region 5 with fail;have t:=Zh (bB.new wr d.r d.va.A d.va.n d.va.c);have N:Hid (eA wr (wr.alloc (.cells (JA d.r d.va.A d.va.n d.va.c) 87))):=Zh (Zb _ _);generalize wr.alloc (.cells (JA d.r d.va.A d.va.n d.va.c) 87)=wa at t N|-;clear g0 z g2 g3 g4 g5 g6 g7;have a0:=t.c0;have a1:=t.c1;have a2:=t.c2;have a3:=t.c3;have a4:=t.c4;have a5:=t.c5;have a6:=t.c6;have a7:=t.c7;have ab:=m.SB;go_wp2_with fail;refine(lO d.r d.va.A d.va.n d.va.c wa m.mB.len ab (fun e=>by have S:=m.mB.nil e;have h2:=m.mB.cap;omega) (m.mB.below N).holds).mono ?_;rintro e c ⟨D,A,E,rfl,C,b6⟩;have U:=Zh (N.trans (b6.mono N.size));have ac:=Zh C;have O6:=Zh (P.below U Zl);have R6:Hid (∀a∈l,WH c a):=Zh (fun a T=>⟨(Q a T).mB.below U,(Q a T).SB⟩);have ad:A<=1000000:=(by have S:=C.len;have h2:=m.mB.len;simp only at S;omega);clear a0 a1 a2 a3 a4 a5 a6 a7 t N b6 C;have f:c.there g1 (k*8) 8:=by
    rcases O6.form with⟨y,_⟩|⟨g',c',cur,y,_,_,_,hh,zC,_,hcs,_⟩
    ·cases y
    injection y with e1 e2 e3;injection e1 with e1;injection e1 with e1;subst e1;subst e3;intro j hj;have ae:k*8+j<cur.size:=(by rw[hcs];show k*8+j<O*8;omega);exact⟨by rw[cell_of_row c g1 (k*8+j) _ _ (0,0) hh,Array.getElem?_eq_getElem ae];rfl,by simp[World.frozen?,hh]⟩
   obtain⟨⟨u0,af⟩,f0⟩:(∃u,c.cell? ⟨g1,k*8,none⟩=some u)/\c.frozen? ⟨g1,k*8,none⟩=false:=⟨Option.isSome_iff_exists.1 (f 0 cA).1,(f 0 cA).2⟩;obtain⟨⟨u1,ag⟩,f1⟩:(∃u,c.cell? ⟨g1,k*8+1,none⟩=some u)/\c.frozen? ⟨g1,k*8+1,none⟩=false:=⟨Option.isSome_iff_exists.1 (f 1 cA).1,(f 1 cA).2⟩;obtain⟨⟨u2,ah⟩,f2⟩:(∃u,c.cell? ⟨g1,k*8+2,none⟩=some u)/\c.frozen? ⟨g1,k*8+2,none⟩=false:=⟨Option.isSome_iff_exists.1 (f 2 cA).1,(f 2 cA).2⟩;obtain⟨⟨u3,ai⟩,f3⟩:(∃u,c.cell? ⟨g1,k*8+3,none⟩=some u)/\c.frozen? ⟨g1,k*8+3,none⟩=false:=⟨Option.isSome_iff_exists.1 (f 3 cA).1,(f 3 cA).2⟩;obtain⟨⟨u4,aj⟩,f4⟩:(∃u,c.cell? ⟨g1,k*8+4,none⟩=some u)/\c.frozen? ⟨g1,k*8+4,none⟩=false:=⟨Option.isSome_iff_exists.1 (f 4 cA).1,(f 4 cA).2⟩;obtain⟨⟨u5,ak⟩,f5⟩:(∃u,c.cell? ⟨g1,k*8+5,none⟩=some u)/\c.frozen? ⟨g1,k*8+5,none⟩=false:=⟨Option.isSome_iff_exists.1 (f 5 cA).1,(f 5 cA).2⟩;obtain⟨⟨u6,al⟩,f6⟩:(∃u,c.cell? ⟨g1,k*8+6,none⟩=some u)/\c.frozen? ⟨g1,k*8+6,none⟩=false:=⟨Option.isSome_iff_exists.1 (f 6 cA).1,(f 6 cA).2⟩;obtain⟨⟨u7,am⟩,f7⟩:(∃u,c.cell? ⟨g1,k*8+7,none⟩=some u)/\c.frozen? ⟨g1,k*8+7,none⟩=false:=⟨Option.isSome_iff_exists.1 (f 7 cA).1,(f 7 cA).2⟩;clear f;go_wp2_with fail;have hW:((((((((c.setCell ⟨g1,k*8,none⟩ (aA d.r.op)).setCell ⟨g1,k*8+1,none⟩ (aA d.r.id)).setCell ⟨g1,k*8+2,none⟩ (aA d.r.par)).setCell ⟨g1,k*8+3,none⟩ (aA d.r.rA)).setCell ⟨g1,k*8+4,none⟩ (bA d.r.tag)).setCell ⟨g1,k*8+5,none⟩ (bA d.r.txt)).setCell ⟨g1,k*8+6,none⟩ (bA d.r.key)).setCell ⟨g1,k*8+7,none⟩ (.slice D A E))=c.setCells g1 (k*8) (RR.cells ⟨d.r,⟨D,A,E⟩⟩):=rfl;obtain⟨V,W,X⟩:=Fo O6 n R6 (a:=⟨d.r,⟨D,A,E⟩⟩) ⟨ac,ad⟩;rw[<-hW] at V W X;generalize ((((((((c.setCell ⟨g1,k*8,none⟩ (aA d.r.op)).setCell ⟨g1,k*8+1,none⟩ (aA d.r.id)).setCell ⟨g1,k*8+2,none⟩ (aA d.r.par)).setCell ⟨g1,k*8+3,none⟩ (aA d.r.rA)).setCell ⟨g1,k*8+4,none⟩ (bA d.r.tag)).setCell ⟨g1,k*8+5,none⟩ (bA d.r.txt)).setCell ⟨g1,k*8+6,none⟩ (bA d.r.key)).setCell ⟨g1,k*8+7,none⟩ (.slice D A E))=W8 at V W X|-;have O8:=Zh V;have R8:=Zh W;have an:Hid (eA w W8):=Zh (R.trans ((U.mono R.size).trans (X.AB (fun i _ hi=>by subst hi;exact aa) (by have:=R.size;have:=U.size;omega))));clear hW V W X af f0 ag f1 ah f2 ai f3 aj f4 ak f5 al f6 am f7;go_roundw
   case rel=>exact⟨k+1,l.set k ⟨d.r,⟨D,A,E⟩⟩,by omega,by go_num,Zh (by rw[List.length_set];exact HL),Zh (HD ⟨d.r,⟨D,A,E⟩⟩ rfl),O8,R8,an⟩
   case measure=>simp[intOf];omega
  ·go_wp2_with fail;go_ret;exact⟨A1,v,O,l,rfl,P,HM,Q,R⟩
variable{B p g:Nat}{x:Dx}{vd:Value}{rs:List RR}
theorem Kq{c':Int}(r:Rc)(A:jA)(n c:Nat)(w:World)(hc:(VA x.d r).1=c')(hwf:WF x.d)(hn:x.n<=100000)(ha:∀w9,gA (fun k=>UC p x k\/nG g vd k) w w9->XI w9 A n c r)(hl:rs.length<=1000000)(h:Dc w B p x)(l:Lg w B g p vd rs):
 fA 87 #[iA g,.agg (JA r A n c)] w (Ec w B g p x vd rs r c'):=by
 have Y:Hid (eA w (w.alloc (.cells (JA r A n c) 87))):=Zh (Zb _ _);have C:=Zh (bB.new w r A n c);have HC:=Zh hc;have a7:=Zh hwf;have HA:=Zh ha;have H:=Zh h;have L:=Zh l;have q1:=FF;have q2:=TF;have af:B<=w.heap.size:=(by have:=h.base;have:=h.lt (.inl rfl:UC p x p);omega);clear hc hwf ha h l;go_enter func87,ntmps87;go_upto_region 1 with fail;generalize w.alloc (.cells (JA r A n c) 87)=W at Y C|-;have H1:=Zh (H.below Y);have L1:=Zh (L.below Y);have d0:=L1.c0;have b0:=C.c0;have b1:=C.c1;have b2:=C.c2;have b3:=C.c3;have b4:=C.c4;have b5:=C.c5;have M:=C.c6;have b7:=C.c7;go_wp2_with fail;go_region_held3 (fun w'=>w'.cell? (dA g 0)=some (iA p)/\w'.cell? ⟨w.heap.size,0,none⟩=some (aA r.op)/\w'.cell? ⟨w.heap.size,1,none⟩=some (aA r.id)/\w'.cell? ⟨w.heap.size,2,none⟩=some (aA r.par)/\w'.cell? ⟨w.heap.size,3,none⟩=some (aA r.rA)/\w'.cell? ⟨w.heap.size,4,none⟩=some (bA r.tag)/\w'.cell? ⟨w.heap.size,5,none⟩=some (bA r.txt)/\w'.cell? ⟨w.heap.size,6,none⟩=some (bA r.key)/\w'.cell? ⟨w.heap.size,7,none⟩=some (.slice A n c)) (first|go_keep|exact K5) ((first
  |(go_at_call 117;refine(u9 r A n c _ HC a7 hn (HA _ (gA.tB (PA Y _) _)) (by exact H1.drewN _)).mono ?_;rintro e D ⟨rfl,x5,d5,a0⟩;have N:=Zh ((L1.drewN _).AI (H1.drewN _) d5);have f:=Zh (bB.AI (w:=W.drewN _) C (H1.drewN _) d5);have K5:=And.intro N.c0 (And.intro f.c0 (And.intro f.c1 (And.intro f.c2 (And.intro f.c3 (And.intro f.c4 (And.intro f.c5 (And.intro f.c6 f.c7)))))));have D5:Hid (oC W B p x x5 D):=Zh ((oC.sC H1 (PA Ze _)).trans d5);have a1:=Zh a0;clear d5 a0)
  |fail))
 have Z:=N;have q:Hid (pD w B g p x vd x5 vd rs D):=Zh ⟨D5.dc,Z,(gA.tB Y _).trans (D5.but.mono fun _ _ s=> .inl s) (fun _ _ s=>s),(fun i s=>(D5.ft i s).imp id (fun e=>by have:=Y.size;omega)),fun i s=> .inl s⟩;clear d0 b0 b1 b2 b3 b4 b5 M b7 N;by_cases E:c'=0
 ·subst E;rw[mK];obtain⟨A2,n2,c2,F,a2,ad,ae,a8,a9⟩:=mG Z.own;have t:=Zh F;have ag:=Zh a2;have j:=Zh (HA D q.but).at_;have aa:Hid (A=none->c=0/\n=0):=Zh (fun e=>by have:=j.nil e;have:=j.cap;omega);have d1:=Z.c1;rw[F] at d1;have f1:=Z.frozen 1;have ah:g<D.heap.size:=FA Z.mA;have ai:w.heap.size<D.heap.size:=f.lt;have b0:=f.c0;have b1:=f.c1;have b2:=f.c2;have b3:=f.c3;have b4:=f.c4;have b5:=f.c5;have M:=f.c6;have b7:=f.c7;have O:Hid (∀k,(Value.slice A2 n2 c2).ownBlock=some k->k≠g/\k<w.heap.size):=Zh (by
   rw[<-F];intro k u;refine⟨?_,L.lt (.inr u)⟩;rintro rfl;obtain⟨d,hd⟩:=L.own.ty u;exact RA hd L.mA nA rfl)
  clear F a2 a9 a8;go_upto_region 6 with fail;refine Tl.GH (S:=(fun w'=>w'.cell? (dA g 1)=some (.slice A2 n2 c2)/\w'.cell? ⟨w.heap.size,0,none⟩=some (aA r.op)/\w'.cell? ⟨w.heap.size,1,none⟩=some (aA r.id)/\w'.cell? ⟨w.heap.size,2,none⟩=some (aA r.par)/\w'.cell? ⟨w.heap.size,3,none⟩=some (aA r.rA)/\w'.cell? ⟨w.heap.size,4,none⟩=some (bA r.tag)/\w'.cell? ⟨w.heap.size,5,none⟩=some (bA r.txt)/\w'.cell? ⟨w.heap.size,6,none⟩=some (bA r.key)/\w'.cell? ⟨w.heap.size,7,none⟩=some (.slice A n c))) (by kernel_rfl) 11 _ rfl rfl rfl (by kernel_rfl) (by go_keep) (fun hHeld=>?_);simp only[List.setIfInBounds_toArray,List.set_cons_zero,List.set_cons_succ,Tl.idle];refine Zn 0 ?_;refine Zn 1 ?_;refine Zn 2 ?_;refine Zn 3 ?_;refine Zn 4 ?_;refine Zn 5 ?_;refine Zr [6] ?_;refine AllReadyH.cons rfl (fun K hK=>?_) ?_
  ·go_simp;go_at_call 36;refine(lO r A n c _ j.len j.SB aa (by exact j.holds)).mono ?_;rintro e w6 ⟨P,Q,R,rfl,a3,M⟩;have a4:=Zh a3;have B6:Hid (eA D w6):=Zh (by first|exact M|exact(Below.drew Ze).trans M|exact(PA Ze _).trans M);have y:=Zh (f.below B6 f.lt);have z:=Zh (Z.below B6);have d6:=z.c1;rw[t.out] at d6;have f6:=z.frozen 1;clear a3 M;go_wp2_with fail;refine hK _ _ ?_ (fun hHeld=>?_)
   ·exact⟨d6,y.c0,y.c1,y.c2,y.c3,y.c4,y.c5,y.c6,y.c7⟩
   clear hK K;(try simp only[Zs]);refine Zr [7] ?_;refine AllReadyH.cons rfl (fun K hK=>?_) ?_
   ·go_simp;refine hK _ _ ?_ (fun hHeld=>?_)
    ·go_keep
    clear hK K;(try simp only[Zs]);refine Zr [8] ?_;refine AllReadyH.cons rfl (fun K hK=>?_) ?_
    ·refine kR.tG rfl (.tmp 25) (.tmp 28) rfl (v:=.slice A2 n2 c2) (l:=rs) (m:=[⟨r,⟨P,Q,R⟩⟩]) (B:=B) (A:=some ⟨w6.heap.size,0,none⟩) (n:=1) (c:=1) rfl (by have:=z.own;rw[t.out] at this;exact this.alloc _) rfl rfl RB (Kind.pA.lit (heap_alloc_new _ _) rfl) AA (by have:=z.ge (.inl rfl:nG g vd g);have:=FA z.mA;simp;omega) ?_;intro v7 T o b J;obtain⟨A7,n7,c7,rfl,_,_,_,_,_⟩:=o.slice;have O7:=Zh o;have G7:=Zh b;have a5:=Zh J;have e7:T.cell? (dA g 1)=some (.slice A2 n2 c2):=(cell_of_row T g 1 _ _ (0,0) ((b.block g (by have:=FA z.mA;simp;omega) (fun e=>((O g e.symm).1 rfl).elim)).trans (oB z.mA))).trans (by rw[t.out];rfl);have G:Hid (bB T w.heap.size r A n c):=Zh ((b.block _ (by have:=y.lt;simp;omega) (fun e=>by have:=(O _ e.symm).2;omega)).trans (oB y));have f7:T.frozen? (dA g 1)=false:=(by have hb:=(b.block g (by have:=FA z.mA;simp;omega) (fun e=>((O g e.symm).1 rfl).elim)).trans (oB z.mA);simp[World.frozen?,hb]);clear o b J;refine hK _ _ ?_ (fun hHeld=>?_)
     ·exact⟨e7,G.c0,G.c1,G.c2,G.c3,G.c4,G.c5,G.c6,G.c7⟩
     clear hK K;(try simp only[Zs]);refine Zn 9 ?_;refine Zn 10 ?_;refine Zn 11 ?_;refine wpAnyH_done (by kernel_rfl) ?_ _;intro K hK;go_simp;refine hK _ _ ?_;clear hK K;have I:=z.below (Ze.alloc Zl (.cells (JA r P Q R) 87));have g7:World.grownBy (w6.alloc (.cells (JA r P Q R) 87)) T vd.ownBlock:=(by rw[t.out];exact G7);have U:nB (w6.alloc (.cells (JA r P Q R) 87)) ⟨P,Q,R⟩ r.attrs:=a4.below (Zb _ _);obtain⟨l8,b8⟩:=Wa (a:=⟨r,⟨P,Q,R⟩⟩) I g7 O7 ⟨U,by have h1:=j.len;have h2:=j.SB;have h3:=U.len;simp only at h3|-;omega⟩;have V:eA D (w6.alloc (.cells (JA r P Q R) 87)):=B6.alloc B6.size _;have X:=q.dc.below V;have a6:=Zh (X.but b8 (fun k u hf=>I.vV X hf u) I.eD);have L8:=Zh l8;have B8:Hid (gA (fun k=>UC p x k\/nG g vd k) w (T.setCell (dA g 1) (.slice A7 n7 c7))):=Zh ((q.but.trans (gA.tB V (fun _=>False)) (fun _ _ s=>s.elim)).trans b8 (fun _ _ s=> .inr s));have ab:Hid (∀k,(Value.slice A7 n7 c7).ownBlock=some k->vd.ownBlock=some k\/w.heap.size<=k):=Zh (fun k u=>by
      rcases a5 with e|e
      ·rw[e,<-t.out] at u;exact .inl u
      ·rw[e] at u;injection u with u;have h1:=B6.size;simp at u;exact .inr cA)
     clear I g7 U l8 b8 V X e7 f7 G d6 f6 z y B6 a4 O7 G7 a5;generalize T.setCell (dA g 1) (.slice A7 n7 c7)=W8 at a6 L8 B8|-;go_wp2_with fail;go_ret;exact⟨by rw[mK];rfl,x5,_,_,⟨a6,L8,B8,q.ft,ab⟩,a1,by simp,by simp⟩
    exact AllReadyH.nil
   exact AllReadyH.nil
  exact AllReadyH.nil
 ·have he:UA c'= .iface 56 (aA c'):=(by unfold UA;rw[if_neg E]);have ac:=Zh E;rw[he];clear E;go_wp2_with fail;go_ret;refine⟨?_,x5,vd,rs,q,a1,by rw[if_neg ac.out],by omega⟩;rw[he];rfl
end P7
namespace P19
open Go.RowKit Kd P4 P5 P7
theorem mJ(left:List Int)(A:jA)(n c:Nat)(beh:Int)(w:World)(H:kI.pA w w.heap.size A left)(hn:left.length=n):fA 163 #[.slice A n c,aA beh] w fun e w'=>e= .returned (aA (aB left beh))/\w=w':=by
 cases left with
 |nil=>
  obtain rfl:n=0:=hn.symm;clear H hn;go_enter func163,ntmps163;go_wp2_with fail;go_ret;exact⟨rfl,rfl⟩
 |cons i r=>
  obtain⟨b,o,rfl,f,a⟩:=mD H (k:=0) DA;have d:0<n:=(by rw[<-hn];simp);have g:((n:Int)==0)=false:=AA;have j:(0:Int)<(n:Int):=cA;simp only[Nat.add_zero,List.getElem_cons_zero] at a;clear H hn;go_enter func163,ntmps163;go_wp2_with fail;go_ret;exact⟨rfl,rfl⟩
theorem yH(ids:List Int)(A:jA)(n c:Nat)(t:Int)(w:World)(ht:t<0):fA 109 #[.slice A n c,aA t] w fun e w'=>e= .returned (aA 0)/\w=w':=by
 go_enter func109,ntmps109;go_wp2_with fail;go_ret;exact⟨rfl,rfl⟩
theorem Il(ids:List Int)(A:jA)(n c k:Nat)(w:World)(hk:k<ids.length)(H:kI.pA w w.heap.size A ids)(hn:ids.length=n):fA 109 #[.slice A n c,aA k] w fun e w'=>e= .returned (aA ids[k])/\w=w':=by
 obtain⟨b,o,rfl,f,a⟩:=mD H hk;have d:k<n:=cA;clear H hn;generalize ids[k]=i at a;clear hk;go_enter func109,ntmps109;go_wp2_with fail;go_ret;exact⟨rfl,rfl⟩
end P19
namespace P19
open Go.RowKit Kd P4 P5 P11 P13 P14 P16
theorem yV{b:wA}(h:b.data.toList.length<=60):b.size<=maxLen:=by
 have:b.size=b.data.toList.length:=rfl;unfold maxLen;omega
theorem aR{b:wA}(h:P1.YB b.data.toList=true):b.size<=maxLen:=by
 unfold P1.YB at h;rw[Bool.and_eq_true,decide_eq_true_eq] at h;exact yV h.1
theorem rb{b:wA}(h:P1.NC b.data.toList=true):b.size<=maxLen:=by
 refine yV ?_;revert h;generalize b.data.toList=l;intro h;cases l with
 |nil=>simp
 |cons c r=>
  simp only[P1.NC,Bool.and_eq_true,decide_eq_true_eq] at h;simp only[List.length_cons];omega
theorem Gq{b:wA}(h:P1.fC b.data.toList=true):b.size<=maxLen:=by
 refine yV ?_;unfold P1.fC at h;simp only[Bool.or_eq_true,beq_iff_eq] at h;rcases h with((h|h)|h)|h<;>rw[h]<;>decide
theorem rI{k:WV}{l:List WV}(h:k∈l):P14.er k∈oA l:=by rw[IB];exact List.mem_map.2 ⟨k,h,rfl⟩
theorem fJ:(z0:wA).size<=maxLen:=by decide
theorem Sb{x:PW}(h:VB x):x.tag.size<=maxLen/\x.key.size<=maxLen/\x.txt.size<=maxLen:=by
 cases h with
 |el hm _ _=>
  simp only[gB,if_true,Bool.and_eq_true,Bool.not_eq_true'] at hm;exact⟨rb hm.1.1,aR hm.2,fJ⟩
 |vo hm _=>
  simp[gB] at hm;exact⟨Gq hm.1,aR hm.2,fJ⟩
 |tx hm=>
  simp[gB] at hm;exact⟨fJ,fJ,aR hm.1⟩
 |nd=>exact⟨fJ,fJ,fJ⟩
 |al=>exact⟨fJ,fJ,fJ⟩
theorem JU{x:PW}(h:VB x):∀k∈x.kids,VB k:=by
 cases h with
 |el _ _ a=>exact a
 |vo _ _=>exact fun k a=>by cases a
 |tx _=>exact fun k a=>by cases a
 |nd=>exact fun k a=>by cases a
 |al=>exact fun k a=>by cases a
theorem Qr:∀t:WV,VB (P14.er t)->BG (P14.er t)->zF t:=by
 intro t
 induction t using WV.ind with
 |h kind tag key txt sa attrs sk kids ih=>
  intro b c;obtain⟨d,e,f⟩:=Sb b;refine .mk d e f c.mB (fun k a=>ih k a (JU b _ ?_) (c.ks _ ?_))
  ·show P14.er k∈oA kids;exact rI a
  ·show P14.er k∈oA kids;exact rI a
theorem Hq{us:List WV}(h1:∀x∈oA us,VB x)(h2:∀x∈oA us,BG x):∀t∈us,zF t:=fun t a=>Qr t (h1 _ (rI a)) (h2 _ (rI a))
end P19
namespace P8
open Go.RowKit Kd P4 P5
def fG(i:Int)(t:PT):Rc:=⟨1,i,0,0,t.tag,t.txt,t.key,[]⟩
def dG(i p b:Int):Rc:=⟨2,i,p,b,⟨#[]⟩,⟨#[]⟩,⟨#[]⟩,[]⟩
def VH(i:Int)(a:List P3.At):Rc:=⟨4,i,0,0,⟨#[]⟩,⟨#[]⟩,⟨#[]⟩,a⟩
structure LC where
 done:List Rc
 err:Int
 d:D
def kC(d:D):List Rc->LC
 |[]=>⟨[],0,d⟩
 |r:: l=>if(VA d r).1=0 then⟨r:: (kC (VA d r).2 l).done,(kC (VA d r).2 l).err,(kC (VA d r).2 l).d⟩ else⟨[],(VA d r).1,(VA d r).2⟩
def AD(i p b:Int)(t:PT):List Rc:=fG i t:: dG i p b:: (if t.attrs.isEmpty then[] else[VH i t.attrs])
def LC.on(a b:LC):LC:=⟨a.done++b.done,b.err,b.d⟩
mutual
def TC(d:D)(p b:Int):PT->LC
 | .mk tag txt key attrs kids=>
   if(kC d (AD (d.n+1) p b (.mk tag txt key attrs kids))).err=0 then(kC d (AD (d.n+1) p b (.mk tag txt key attrs kids))).on (yD (kC d (AD (d.n+1) p b (.mk tag txt key attrs kids))).d (d.n+1) kids)
   else kC d (AD (d.n+1) p b (.mk tag txt key attrs kids))
def yD(d:D)(p:Int):List PT->LC
 |[]=>⟨[],0,d⟩
 |t:: l=>if(TC d p 0 t).err=0 then(TC d p 0 t).on (yD (TC d p 0 t).d p l) else TC d p 0 t
end
theorem LK(d:D)(p b:Int)(t:PT):TC d p b t=if(kC d (AD (d.n+1) p b t)).err=0 then(kC d (AD (d.n+1) p b t)).on (yD (kC d (AD (d.n+1) p b t)).d (d.n+1) t.kids) else kC d (AD (d.n+1) p b t):=by
 cases t;rw[TC];rfl
def OV(d:D)(p b:Int)(t:PT):Int:=if(TC d p b t).err=0 then d.n+1 else 0
theorem EU:∀(l:List Rc) {d:D},WF d->WF (kC d l).d
 |[],_,h=>h
 |r:: l,d,h=>by
  rw[kC];split
  ·exact EU l (bK h r)
  ·exact bK h r
theorem JY:∀(l:List Rc) (d:D),0<=(kC d l).err/\(kC d l).err<=13
 |[],_=>by simp[kC]
 |r:: l,d=>by
  rw[kC];split
  ·exact JY l _
  ·exact pf d r
theorem Dr(d:D)(i p b:Int):(oD d i p b).2.n=d.n:=by unfold oD;split<;>rfl
theorem Co(d:D)(i:Int)(a:List P3.At):(fD d i a).2.n=d.n:=by
 unfold fD;split
 ·rfl
 split
 ·rfl
 split<;>rfl
theorem vh(d:D)(i p b:Int):VA d (dG i p b)=oD d i p b:=by
 unfold VA dG;simp
theorem Ud(d:D)(i:Int)(a:List P3.At):VA d (VH i a)=fD d i a:=by
 unfold VA VH;simp
theorem sq(d:D)(i p b:Int):(VA d (dG i p b)).2.n=d.n:=by
 rw[vh];exact Dr _ _ _ _
theorem Ok(d:D)(i:Int)(a:List P3.At):(VA d (VH i a)).2.n=d.n:=by
 rw[Ud];exact Co _ _ _
theorem XQ(d:D)(p b:Int)(t:PT):d.n<=(kC d (AD (d.n+1) p b t)).d.n/\(kC d (AD (d.n+1) p b t)).d.n<=d.n+1:=by
 have a:=GM d (fG (d.n+1) t);have c:=sq (VA d (fG (d.n+1) t)).2 (d.n+1) p b;unfold AD;rw[kC];split
 ·rw[kC];split
  ·split
   ·simp only[kC];omega
   ·have e:=Ok (VA (VA d (fG (d.n+1) t)).2 (dG (d.n+1) p b)).2 (d.n+1) t.attrs;rw[kC];split
    ·simp only[kC];omega
    ·show d.n<=(VA _ _).2.n/\(VA _ _).2.n<=_;omega
  ·show d.n<=(VA _ _).2.n/\(VA _ _).2.n<=_;omega
 ·exact a
theorem tP(t:PT):∀(d:D) (p b:Int),(WF d->WF (TC d p b t).d)/\(0<=(TC d p b t).err/\(TC d p b t).err<=13)/\d.n<=(TC d p b t).d.n/\(TC d p b t).d.n<=d.n+countP t:=by
 induction t using PT.ind with
 |h tag txt key attrs kids ih=>
  have c:∀(l:List PT),(∀k∈l,k∈kids)->∀(d:D) (p:Int),(WF d->WF (yD d p l).d)/\(0<=(yD d p l).err/\(yD d p l).err<=13)/\d.n<=(yD d p l).d.n/\(yD d p l).d.n<=d.n+xB l:=by
   intro l
   induction l with
   |nil=>intro _ d p;simp[yD,xB]
   |cons a l ihl=>
    intro i d p;obtain⟨j,o,m,u⟩:=ih a (i a DA) d p 0;obtain⟨e,f,g,q⟩:=ihl (fun k r=>i k (by simp[r])) (TC d p 0 a).d p;rw[yD,xB];split
    ·exact⟨fun h=>e (j h),f,Int.le_trans m g,by show(yD _ _ _).d.n<=_;omega⟩
    ·exact⟨j,o,m,by omega⟩
  intro d p b;have n:=XQ d p b (.mk tag txt key attrs kids);have s:=JY (AD (d.n+1) p b (.mk tag txt key attrs kids)) d;rw[TC,countP];split
  ·obtain⟨e,f,g,q⟩:=c kids (fun _ h=>h) (kC d (AD (d.n+1) p b (.mk tag txt key attrs kids))).d (d.n+1);exact⟨fun h=>e (EU _ h),f,Int.le_trans n.1 g,by show(yD _ _ _).d.n<=_;omega⟩
  ·exact⟨fun h=>EU _ h,s,n.1,by omega⟩
section
variable{d:D}{p:Int}{tag txt key:wA}
end
end P8
namespace P8
open Go.RowKit Kd P4 P5 P7
structure JE(w:World)(C:Nat)(a:RR):Prop where
 len:a.r.attrs.length=a.va.n
 SB:a.va.n<=1000
 cap:a.va.n<=a.va.c
 nil:a.va.A=none->a.va.c=0
 wf:P3.Wf a.r.attrs
 holds:kA.pA w C a.va.A a.r.attrs
 tag:a.r.tag.size<=maxLen
 txt:a.r.txt.size<=maxLen
 key:a.r.key.size<=maxLen
theorem JE.qC{w w':World}{C D:Nat}{a:RR}(h:JE w C a)(hb:Below D w w')(hC:C<=D):JE w' C a:=⟨h.len,h.SB,h.cap,h.nil,h.wf,h.holds.below hb hC,h.tag,h.txt,h.key⟩
theorem JE.arg{w:World}{C:Nat}{a:RR}(h:JE w C a)(hC:C<=w.heap.size):XI w a.va.A a.va.n a.va.c a.r:=⟨⟨h.len,h.cap,h.nil,by have:=h.SB;omega,h.wf,h.holds.more hC⟩,h.tag,h.txt,h.key⟩
theorem ZT(a b c:LC):(a.on b).on c=a.on (b.on c):=by simp[LC.on,List.append_assoc]
theorem uP(i p b:Int)(t:PT):(AD i p b t).length<=3:=by unfold AD;split<;>simp
theorem mT(d:D)(L:List Rc):kC d L=(⟨L.take 0,0,d⟩:LC).on (kC d (L.drop 0)):=by
 show kC d L=⟨[]++(kC d L).done,(kC d L).err,(kC d L).d⟩;cases kC d L;rfl
theorem aU{d dk:D}{L:List Rc}{k:Nat}(hk:k<L.length)(h:kC d L=(⟨L.take k,0,dk⟩:LC).on (kC dk (L.drop k)))(h0:(VA dk L[k]).1=0):kC d L=(⟨L.take (k+1),0,(VA dk L[k]).2⟩:LC).on (kC (VA dk L[k]).2 (L.drop (k+1))):=by
 have e:L.take (k+1)=L.take k++[L[k]]:=(by rw[List.take_add_one,List.getElem?_eq_getElem hk];rfl);rw[h,List.drop_eq_getElem_cons hk,kC,if_pos h0,e];unfold LC.on;rw[List.append_assoc];rfl
theorem FU{d dk:D}{L:List Rc}{k:Nat}(hk:k<L.length)(h:kC d L=(⟨L.take k,0,dk⟩:LC).on (kC dk (L.drop k)))(h0:(VA dk L[k]).1≠0):kC d L=⟨L.take k,(VA dk L[k]).1,(VA dk L[k]).2⟩:=by
 rw[h,List.drop_eq_getElem_cons hk,kC,if_neg h0];unfold LC.on;simp
theorem GU{d dk:D}{L:List Rc}(h:kC d L=(⟨L.take L.length,0,dk⟩:LC).on (kC dk (L.drop L.length))):kC d L=⟨L,0,dk⟩:=by
 rw[h,List.drop_length,kC];unfold LC.on;simp
theorem nT{d:D}{p:Int}{L:List PT}{k:Nat}(hk:k<L.length)(h0:(TC d p 0 L[k]).err=0):yD d p (L.drop k)=(⟨(TC d p 0 L[k]).done,0,(TC d p 0 L[k]).d⟩:LC).on (yD (TC d p 0 L[k]).d p (L.drop (k+1))):=by
 rw[List.drop_eq_getElem_cons hk,yD,if_pos h0];unfold LC.on;rfl
theorem bU{d:D}{p:Int}{L:List PT}{k:Nat}(hk:k<L.length)(h0:(TC d p 0 L[k]).err≠0):yD d p (L.drop k)=TC d p 0 L[k]:=by
 rw[List.drop_eq_getElem_cons hk,yD,if_neg h0]
theorem Eo{w:World}{B:Nat}{v:Value}{ms:List RR}(ho:kR.Own w B v ms):qD w (fun i=>v.ownBlock=some i):=by
 intro i a f b c;obtain⟨d,e⟩:=ho.ty b;exact RA c e nA rfl
theorem mL{w5 w8:World}{B s:Nat}{v:Value}{ms:List RR}{t:TV}(ho:kR.Own w5 B v ms)(hb:gA (fun i=>v.ownBlock=some i) w5 w8)(h:TB w5 s t):TB w8 s t:=(hb.block s h.lt (fun e=>by
 obtain⟨d,a⟩:=ho.ty e;exact RA a h nA rfl)).trans h
theorem vQ{w5:World}{o:Obj}{w8:World}{v:Value}(hg:(w5.alloc o).grownBy w8 v.ownBlock):gA (fun i=>v.ownBlock=some i) w5 w8:=(gA.alloc (gA.refl _ _) _).trans (gA.sG (S:=fun i=>v.ownBlock=some i) hg (fun i a _=>a)) (fun _ _ h=>h)
theorem U0:∀(l:List Rc) (d:D),(kC d l).done.length<=l.length
 |[],_=>by simp[kC]
 |r:: l,d=>by
  rw[kC];split
  ·have:=U0 l (VA d r).2;simp;omega
  ·simp
theorem GP(t:PT):∀(d:D) (p b:Int),(TC d p b t).done.length<=3*countP t:=by
 induction t using PT.ind with
 |h tag txt key attrs kids ih=>
  have c:∀(l:List PT),(∀k∈l,k∈kids)->∀(d:D) (p:Int),(yD d p l).done.length<=3*xB l:=by
   intro l
   induction l with
   |nil=>intro _ d p;simp[yD]
   |cons a l ihl=>
    intro e d p;have f:=ih a (e a DA) d p 0;have g:=ihl (fun k i=>e k (by simp[i])) (TC d p 0 a).d p;rw[yD,xB];split
    ·unfold LC.on;simp;omega
    ·omega
  intro d p b;have f:=U0 (AD (d.n+1) p b (.mk tag txt key attrs kids)) d;have g:=uP (d.n+1) p b (.mk tag txt key attrs kids);have j:=c kids (fun _ h=>h) (kC d (AD (d.n+1) p b (.mk tag txt key attrs kids))).d (d.n+1);rw[TC,countP];split
  ·unfold LC.on;simp;omega
  ·omega
end P8
end Go.Proofs.YtngnkmeaaneklaaGreat
