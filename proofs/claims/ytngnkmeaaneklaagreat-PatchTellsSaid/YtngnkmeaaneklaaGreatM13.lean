/- A part of the proof. No condition. -/
import Derived.Test.YtngnkmeaaneklaaGreatM1
import Derived.Test.YtngnkmeaaneklaaGreatM9
import Derived.Test.YtngnkmeaaneklaaGreatM10
set_option linter.unusedVariables false
set_option linter.unusedSimpArgs false
set_option maxRecDepth 100000
set_option maxHeartbeats 40000000
namespace Go.Proofs.YtngnkmeaaneklaaGreat
open Tryz
namespace P19
open Go.RowKit Kd P4 P5 P7 P14 P16
def Nr(w:World)(l:List Nd)(ids:List Int)(n:Nat)(s10 s11:Value)(wr:World):Prop:=∃(k:Nat) (A1:jA) (n1 c1:Nat),k<=n/\s11 = aA k/\s10= .slice A1 n1 c1/\Hid (kU.Own wr w.heap.size (.slice A1 n1 c1) ((ids.take k).map (dB l)))/\Hid (eA w wr)
theorem map_take{l:List Nd}{ids:List Int}{k:Nat}(hk:k<ids.length):(ids.take (k+1)).map (dB l)=(ids.take k).map (dB l)++[dB l ids[k]]:=by
 rw[List.take_succ_eq_append_getElem hk,List.map_append];rfl
theorem QY(ts:List WV)(hk:∀t∈ts,rO t.kids):rO ts:=by
 intro f hf C B g q y v rs par ids A n c beh A' n' c' w a5;have N:=Zh a5;have ct:=Zh hk;have cu:=Zh hf;have LI:=Zh a5.ids.len;have LQ:Hid (ts.length=n'):=Zh (a5.want w (gA.refl _ _)).len;have hn:n<=200:=(by rw[<-a5.ids.len];exact a5.SB);have AY:Hid (EB y.l):=Zh a5.wf.VC;have cv:n'<=1000:=by
  have h2:ts.length<=eB (oA ts):=by
   have:∀l:List PW,l.length<=eB l:=by
    intro l
    induction l with
    |nil=>simp
    |cons x r ih=>rw[eB,tJ,List.length_cons];omega
   have:=this (oA ts);rwa[JF] at this
  have Q:=a5.EG;have h5:=LQ.out;omega
 clear hk hf a5;go_enter func32,ntmps32;go_wp2_with fail;go_loopw [10,11] (fun cw b9 wr=>Nr w y.l ids n cw b9 wr) (fun _ b9 _=>n-(intOf b9).toNat)
 case atStart=>exact⟨0,none,0,0,by omega,rfl,rfl,Zh (Kind.Own.nil kU w _),Zh Ze⟩
 case round=>
  obtain⟨k,A1,n1,c1,hk,rfl,rfl,HO,HB⟩:=hrel;have IX:=Zh (YH.wR N.out.wk (nC.sC N.out.wk HB.out) N.out.ids);by_cases ba:k<n
  ·have bb:k<ids.length:=(by rw[LI.out];exact ba);obtain⟨b,o,rfl,hb,g0⟩:=mD IX.out.holds bb;obtain⟨a1,bw⟩:=N.out.kids _ (List.getElem_mem bb);obtain⟨x,hx⟩:=xT a1;have MT:=Zh (map_take (l:=y.l) bb);have EO:dB y.l ids[k]=⟨x.tag,x.key⟩:=(by unfold dB;rw[show find y.l ids[k]=some x from hx]);rw[EO] at MT;have CO:=Zh (Po ids[k] x wr N.out.wf hx (N.out.wk.below HB.out));have NL:Hid (((ids.take k).map (dB y.l)).length<=200):=Zh (by rw[List.length_map,List.length_take];omega);have dn:=HB.out.size;clear hb a1 bw hx EO;generalize ids[k]=i at g0 CO;go_wp2_with fail;refine CO.out.mono ?_;rintro e w2 ⟨rfl,b2⟩;have O2:=Zh (HO.out.below b2 Zl);have B2:=Zh (HB.out.trans (b2.mono HB.out.size));have aj:=B2.out.size;clear b2 CO HO;go_wp2_with (at_builtin;refine kU.iC rfl _ _ rfl (v:=.slice A1 n1 c1) (l:=(ids.take k).map (dB y.l)) (m:=[⟨x.tag,x.key⟩]) (B:=w.heap.size) rfl (O2.out.alloc _) rfl rfl RB (Kind.pA.lit (heap_alloc_new _ _) rfl) (by have:=NL.out;simp;omega) AA ?_;intro v' w5 G R a8;obtain⟨A5,n5,c5,rfl,e1,e2,e3,e4,e5⟩:=G.slice;have B5:Hid (eA w w5):=Zh ((B2.out.alloc aj _).grown R AA (fun k hk=>(O2.out.lt hk).1));have O5:Hid (kU.Own w5 w.heap.size (.slice A5 n5 c5) ((ids.take (k+1)).map (dB y.l))):=Zh (by rw[MT.out];exact G);clear G R a8 e1 e2 e3 e4 e5);go_roundw
   case rel=>exact⟨k+1,A5,n5,c5,by omega,by go_num,rfl,O5,B5⟩
   case measure=>simp[intOf];omega
  ·obtain rfl:k=n:=cA
   have OU:Hid (kU.Own wr w.heap.size (.slice A1 n1 c1) (ids.map (dB y.l))):=Zh (by have:=HO.out;rwa[List.take_of_length_le (by rw[LI.out];exact Zl)] at this);obtain⟨u1,_,_,_,u5⟩:=ZE OU.out;have QW:=N.out.want wr (gA.tB HB.out _);have q1:=QW.len;have q5:=QW.holds;have CF:=Zh (Nh (ids.map (dB y.l)) ts A1 n1 c1 A' n' c' wr u5 u1 (by rw[List.length_map,LI.out] at u1;omega) q5 q1 cv);have hb:=HB.out.size;clear u1 u5 q1 q5 QW HO;go_wp2_with fail;refine CF.out.mono ?_;rintro e w2 ⟨A2,n2,c2,A3,n3,c3,A4,n4,c4,rfl,o2,_,_,b2⟩;have TK:=Zh (o2.dE (B':=w.heap.size) hb);have B2:=Zh (HB.out.trans (b2.mono hb));have bz:=Zh (nC.sC N.out.wk B2.out);have I2:=Zh (YH.wR N.out.wk bz.out N.out.ids);clear o2 b2 CF OU HB IX hb;have aj:=B2.out.size;have OZ:Hid (kI.Own (w2.alloc (.cells #[] 3)) w.heap.size (.slice (some ⟨w2.heap.size,0,none⟩) 0 0) []):=Zh (Kind.Own.made kI w2 _ aj);go_upto_region 7 with(at_builtin;refine kI.iC rfl _ _ rfl (v:=.slice (some ⟨w2.heap.size,0,none⟩) 0 0) (l:=[]) (m:=ids) (B:=w.heap.size) rfl OZ.out rfl LI.out N.out.nz (I2.out.holds.on (Zb _ _)) AA AA ?_;intro v' w5 G R a8;obtain⟨A5,n5,c5,rfl,e1,e2,e3,e4,e5⟩:=G.slice;have bc:eA w2 w5:=Below.grown (a:=w2) (Zb _ _) R DA (fun k hk=>by simp[Value.ownBlock] at hk;omega);have B5:Hid (eA w w5):=Zh (B2.out.trans (bc.mono aj));have O5:Hid (kI.Own w5 w.heap.size (.slice A5 n5 c5) ids):=Zh G;have c0:=Zh (TK.out.below bc Zl);clear G R a8 e1 e2 e3 e4 e5 bc);have P5:=Zh (N.out.below B5.out);have ST:Hid (oV w5 B g q y v rs f par beh ids ts n' (.slice A5 n5 c5) (aA 0) w5):=Zh ⟨0,A5,n5,c5,by omega,rfl,rfl,Zh (O5.out.dE (Nat.zero_le _)),Zh ⟨y,v,rs,nC.refl P5.out.wk,rfl⟩⟩;have c6:Hid (kI.Own w5 w.heap.size (.slice A2 n2 c2) (tk ids y ts)):=Zh c0.out;have cx:Hid (Wk w B g q y v rs):=Zh N.out.wk;clear TK c0 O5 OZ I2 bz B2 aj N AY LI;go_wp2_with fail;go_loopw [15,16] (fun cy bd wr=>oV w5 B g q y v rs f par beh ids ts n' cy bd wr) (fun _ bd _=>n'-(intOf bd).toNat)
   case atStart=>exact ST.out
   case round=>
    clear ST;obtain⟨i,AL,nL,cL,hi,rfl,rfl,HO,HR⟩:=hrel;by_cases O:i<n'
    ·have H:i<ts.length:=(uA LQ.out);have AF:=Zh (rl (f:=f) beh P5.out H);have HW:Hid (∀w',gA (MG g q v) w5 w'->MC kQ w' w'.heap.size ts[i]):=Zh (fun w' hb=>(P5.out.want w' hb).ok _ (List.getElem_mem H));have HS:=Zh (P5.out.small _ (List.getElem_mem H));have ap:=Zh (ct.out _ (List.getElem_mem H));have a6:Hid (dW (er ts[i])<=f):=Zh (Nat.le_trans (nR (by rw[<-xL H];exact List.getElem_mem _)) cu.out);obtain⟨yr,vr,cz,kr,c8⟩:=HR.out;have q5:=(P5.out.want wr kr.but).holds;obtain⟨bq,oq,rfl,d6,d0,d1,d2,d3,d4,d5⟩:=qT q5 H;have ca:Hid (kI.Own wr w.heap.size (.slice A2 n2 c2) (tk ids y ts)):=Zh (kr.ints P5.out.wk c6.out);have cb:=Zh (YH.wR P5.out.wk kr P5.out.ids);have cc:Hid (∀W bx,eA wr W->W.heap[bx]? = some (.cells #[aA ts[i].kind,bA ts[i].tag,bA ts[i].key,bA ts[i].txt,.slice ts[i].sa.A ts[i].sa.n ts[i].sa.c,.slice ts[i].sk.A ts[i].sk.n ts[i].sk.c] 117 (0,0))->Cx w5 B g q y v rs bx ts[i] (.slice AL nL cL) (aw f par beh ids y rs ts i).2 (aw f par beh ids y rs ts i).1 W):=Zh (fun W bx hb hx=>⟨⟨yr,vr,cz,kr.trans (nC.sC kr.wk hb),c8⟩,hx,HO.out.below hb Zl⟩);clear q5 kr c8 HR d6;go_upto_region 11 with fail;have B1:Hid (eA wr (wr.alloc (.cells #[aA ts[i].kind,bA ts[i].tag,bA ts[i].key,bA ts[i].txt,.slice ts[i].sa.A ts[i].sa.n ts[i].sa.c,.slice ts[i].sk.A ts[i].sk.n ts[i].sk.c] 117))):=Zh (Zb _ _);have C1:=Zh (cc.out _ wr.heap.size B1.out (heap_alloc_new wr _));have be:=Zh (ca.out.below B1.out Zl);have bf:Hid (kI.pA (wr.alloc (.cells #[aA ts[i].kind,bA ts[i].tag,bA ts[i].key,bA ts[i].txt,.slice ts[i].sa.A ts[i].sa.n ts[i].sa.c,.slice ts[i].sk.A ts[i].sk.n ts[i].sk.c] 117)) (wr.alloc (.cells #[aA ts[i].kind,bA ts[i].tag,bA ts[i].key,bA ts[i].txt,.slice ts[i].sa.A ts[i].sa.n ts[i].sa.c,.slice ts[i].sk.A ts[i].sk.n ts[i].sk.c] 117)).heap.size A ids):=Zh (cb.out.holds.on B1.out);clear cc ca HO d0 d1 d2 d3 d4 d5 cb;generalize wr.heap.size=bx at C1 B1|-;generalize (wr.alloc (.cells #[aA ts[i].kind,bA ts[i].tag,bA ts[i].key,bA ts[i].txt,.slice ts[i].sa.A ts[i].sa.n ts[i].sa.c,.slice ts[i].sk.A ts[i].sk.n ts[i].sk.c] 117))=W at C1 be bf B1|-;clear B1;have EK:(er ts[i]).kind=ts[i].kind:=(by rw[TE];rfl);have F:=Zh EK;clear EK;by_cases h4:ts[i].kind=4
     ·have I:=C1.out.c0;rw[h4] at I
      as_aux_lemma=>
       go_wp2_with fail;go_roundw
       case rel=>
        have h:=C1.out.list (Kind.Own.nil kI W 0);exact PH (p:=((aw f par beh ids y rs ts i).1,[])) O LQ.out h (tY (by rw[F.out];exact h4)) _ (by go_num)
       case measure=>simp[intOf];omega
     have n4:(ts[i].kind==4)=false:=beq_eq_false_iff_ne.2 h4;have I:=C1.out.c0;obtain⟨d7,ak⟩:∃z,((tk ids y ts)[i]'(by rw[wH];exact H))=z:=⟨_,rfl⟩;have aq:=Zh ak;obtain⟨tl,_,_,_,ag⟩:=ZE be.out;have cd:i<(tk ids y ts).length:=(by rw[wH];exact H);obtain⟨bt,ot,rfl,_,e0⟩:=mD ag cd;rw[ak] at e0;have dm:(i:Int)<(n2:Int):=(by rw[wH] at tl;omega);have dp:(0:Int)<=(i:Int):=cA;by_cases ht:0<=d7
     ·obtain⟨j,a,ej,hj,bg,ar⟩:=xl (f:=f) beh P5.out H (by rw[ak];exact ht);rw[ak] at ej;subst ej;have al:j<ids.length:=(List.getElem?_eq_some_iff.1 hj).1;have ce:ids[j]=a:=(List.getElem?_eq_some_iff.1 hj).2;have dq:=P5.out.ids.len;obtain⟨bi,oi,rfl,_,g1⟩:=mD bf.out al;rw[ce] at g1;have d8:(j:Int)<(k:Int):=cA;have dr:(0:Int)<=(j:Int):=cA;have HJ:=Zh hj;have d9:=Zh ar;generalize hP:aw f par beh ids y rs ts i=p at C1 AF bg;have HP:=Zh hP;have MF:=Zh (sl beh P5.out AF.out ar (p.2.idxOf a));have bh:p.1.1.n+(jE (er ts[i]):Nat)<=90000:=AF.out.num;have bj:p.1.2.length+2000*jE (er ts[i])+2000<=800000:=AF.out.log;have SZ:jE (er ts[i])=1+eB (oA ts[i].kids):=(by rw[tJ,nF]);obtain⟨zk,a9⟩:=qA (eB (oA ts[i].kids));rw[SZ,a9] at bh bj;have am:Hid (eB (oA ts[i].kids)<=1000):=Zh (by have:=AF.out.EG;rw[SZ] at this;omega);have a2:=Zh a9;have CV:=Zh (So par AL nL cL beh a C1.out bg AF.out.len AF.out.lv.wf cA cA);have ES:Hid (ts[i].kind=3->PD (QC f) par beh ids (er ts[i]) ((tk ids y ts)[i]'(by rw[wH];exact H)) (aw f par beh ids y rs ts i)=UB p.1 par p.2 beh a (p.2.idxOf a)):=Zh (fun h3=>by
       rw[HP.out,uY (by rw[F.out];exact h3) aq.out HJ.out])
      have ET:Hid (ts[i].kind≠3->PD (QC f) par beh ids (er ts[i]) ((tk ids y ts)[i]'(by rw[wH];exact H)) (aw f par beh ids y rs ts i)=(IE (QC f) (er ts[i]) a (UB p.1 par p.2 beh a (p.2.idxOf a)).1,(UB p.1 par p.2 beh a (p.2.idxOf a)).2)):=Zh (fun h3=>by
       rw[HP.out,gX (by rw[F.out];exact h4) (by rw[F.out];exact h3) aq.out HJ.out])
      have ai:Hid (a≠0):=Zh (AF.out.lv.wf.tr.SF (AF.out.lv.lB a ar).1);clear bg ar a9 SZ hP ce hj al AF ak;generalize UB p.1 par p.2 beh a (p.2.idxOf a)=m at MF CV ES ET;go_upto_region 17 with(go_at_call 64;refine CV.out.mono ?_;rintro e w7 ⟨AM,nM,cM,rfl,c7⟩);have C7:=Zh c7;have I:=C7.out.c0;clear c7 CV g1 e0 C1 be bf ag tl;by_cases h3:ts[i].kind=3
      ·rw[h3] at I
       as_aux_lemma=>
        go_wp2_with fail;go_roundw
        case rel=>exact PH (p:=m) O LQ.out C7.out (ES.out h3) _ (by go_num)
        case measure=>simp[intOf];omega
      ·have n3:(ts[i].kind==3)=false:=beq_eq_false_iff_ne.2 h3
       as_aux_lemma=>
        have nz:(a==0)=false:=beq_eq_false_iff_ne.2 ai.out;obtain⟨y7,v7,da,au,e7⟩:=C7.out.run;have av:WF m.1.1:=MF.out.1.wf;have a1:lA m.1.1.l a=true:=(MF.out.1.lB a d9.out).1;rw[<-e7] at av a1;have bk:Hid (EB y7.l):=Zh av.VC;have cf:y7.rs.length<=1000:=(by have:=av.xG;rw[show y7.d.l=y7.l from rfl,MD] at this;omega);obtain⟨k7,ax,cg,ay⟩:=FC bk.out a1;obtain⟨b7,o7,db,AV,nV,cV,AK,nK,cK,dc,b8,dd,d0,LL,ch,de⟩:=au.wk.doc.bG ax;have bm:nB w7 ⟨AV,nV,cV⟩ (y7.rs[k7].nd).attrs:=by
         have:=(au.wk.doc.nodes _ (List.getElem_mem ax)).mB;rwa[ch] at this
        obtain⟨nl,bn⟩:=qA y7.rs.length;have ba:k7<nl:=cA;have df:nl<=1000:=cA;rw[bn] at d0 b8;have ci:Hid (∀d,eA w7 d->fA 26 #[iA q,aA a] d fun e w'=>e= .returned (aA k7)/\d=w'):=Zh (fun d Z=>rB a d bk.out cf ax cg (au.wk.doc.below Z));obtain⟨nd,ck⟩:=qA (y7.rs[k7].nd);rw[ck] at LL bm ay;have bo:Hid (jC m.1.1.l a=nd):=Zh (by
         unfold jC;rw[<-e7,show find (y7.d,da.map (·.r)).1.l a=some nd from ay];rfl)
        have E:Hid (P3.bC nd.attrs=true):=Zh (by
         have Q:=MF.out.2.1;rw[<-e7] at Q;exact Q nd (iI ay).1)
        have cl:=Zh bm;have p0:=C7.out.g0;have l0:=LL.c0;have l1:=LL.c1;have l2:=LL.c2;have l3:=LL.c3;have l4:=LL.c4;have l5:=LL.c5;have l6:=LL.c6;have l7:=LL.c7;clear dc ch de bn LL cg ay ck bm e7 au av a1 bk dd;go_upto_region 25 with fail;go_cut [20] (fun dg wx=>dg = iA w7.heap.size/\Hid (eA w7 wx)/\Hid (LA wx w7.heap.size nd AV nV cV AK nK cK))
        case first=>
         go_region_held3 (fun w'=>w'.cell? (dA q 0)=some (.slice (some (dA b7 o7)) nl db)/\w'.cell? ⟨b7,o7+k7*8,none⟩=some (aA nd.id)/\w'.cell? ⟨b7,o7+k7*8+1,none⟩=some (aA nd.par)/\w'.cell? ⟨b7,o7+k7*8+2,none⟩=some (bA nd.tag)/\w'.cell? ⟨b7,o7+k7*8+3,none⟩=some (bA nd.txt)/\w'.cell? ⟨b7,o7+k7*8+4,none⟩=some (bA nd.key)/\w'.cell? ⟨b7,o7+k7*8+5,none⟩=some (.slice AV nV cV)/\w'.cell? ⟨b7,o7+k7*8+6,none⟩=some (.slice AK nK cK)/\w'.cell? ⟨b7,o7+k7*8+7,none⟩=some (aA nd.note)/\w'.cell? (dA g 0)=some (iA q)) (go_keep) ((first
          |(go_at_call 26;refine zA (ci.out _ (by first|exact PA Ze _|exact PA (Zb _ _) _)) ?_)
          |fail))
         all_goals
          go_wp2_with fail;go_meet;exact⟨rfl,Zh ((Zb _ _).drew),Zh (by exact LA.new w7 nd AV nV cV AK nK cK)⟩
        case rest=>
         obtain⟨rfl,B8,N8⟩:=hcut;obtain⟨w8,rfl⟩:∃w8,w8=wc:=⟨_,rfl⟩;clear d0 l0 l1 l2 l3 l4 l5 l6 l7 b8 p0 I ba df cf ax ci;have C8:=Zh (C7.out.below B8.out);have NB:Hid (pN w8 w7.heap.size nd AV nV cV AK nK cK):=Zh ⟨N8.out,cl.out.below B8.out⟩;clear N8 cl B8 C7;generalize w7.heap.size=ds at NB|-;have az:Hid (WF m.1.1):=Zh MF.out.1.wf;have cm:Hid (pG m.1.1):=Zh MF.out.2.1;have NM:m.1.1.n=p.1.1.n:=MF.out.2.2.1;have LM:m.1.2.length<=p.1.2.length+201:=MF.out.2.2.2;clear MF;have I:=C8.out.c0;have k3:=C8.out.c3;have e3:=NB.out.1.c3;by_cases h2:ts[i].kind=2
         ·rw[h2] at I;by_cases b0:nd.txt.toList=ts[i].txt.toList
          ·have hq:(nd.txt.toList==ts[i].txt.toList)=true:=(by rw[b0];exact beq_self_eq_true _);go_upto_region 28 with fail;clear k3 e3 I;have k4:=C8.out.c4;have e5:=NB.out.1.c5;have CJ:=Zh (zQ nd.attrs AV nV cV C8.out HW.out HS.out NB.out.2 E.out);go_upto_region 29 with(go_at_call 68;refine CJ.out.mono ?_;rintro e wJ ⟨AJ,nJ,cJ,rfl,S,aa,T,cj⟩);have U:=Zh cj;have u:=Zh S;have NJ:=Zh (NB.out.below T);clear cj S aa T CJ k4 e5 C8 NB;have e5:=NJ.out.1.c5;have JM:=P3.FN (l:=nd.attrs) (m:=ts[i].attrs) E.out HS.out.mB;have j8:=(vH JM).2;have n8:=(vH E.out).2;have jl:=u.out.len;have J:=NJ.out.2.len;simp only at jl J;have K:Hid (fA 69 #[.slice AJ nJ cJ,.slice AV nV cV] wJ fun e w'=>e= .returned (.bool (P3.zD (P3.aC nd.attrs ts[i].attrs) nd.attrs))/\eA wJ w'):=Zh (P3.lM (P3.aC nd.attrs ts[i].attrs) nd.attrs AJ AV nJ nV cJ cV wJ jl J cA cA (UE u.out.holds) (UE NJ.out.2.holds));have b1:=Zh JM;obtain⟨sm,L⟩:=qA (P3.zD (P3.aC nd.attrs ts[i].attrs) nd.attrs);rw[L] at K;have b3:=Zh L;clear L JM j8 n8 jl J;go_upto_region 30 with(go_at_call 69;refine K.out.mono ?_;rintro e wS ⟨rfl,M⟩);have CS:=Zh (U.out.below M);have AS:=Zh (u.out.below M);clear M U u NJ K e5;have I:=CS.out.c0;rw[h2] at I;go_wp2_with fail;go_roundw
           case rel=>exact PH (p:=(m.1,m.2)) O LQ.out CS.out (by rw[ET.out h3,rP (by rw[F.out];exact h2),if_neg (by rw[bo.out,SQ];exact fun e=>e b0)]) _ (by go_num)
           case measure=>simp[intOf];omega
          ·have hq:(nd.txt.toList==ts[i].txt.toList)=false:=beq_eq_false_iff_ne.2 b0;have CT:=Zh (ql a C8.out az.out cA cA HS.out);go_upto_region 28 with(go_at_call 65;refine CT.out.mono ?_;rintro e w9 ⟨rfl,c9,cn⟩);have C9:=Zh c9;have b4:=Zh (cn _ _ _ _ _ _ _ _ NB.out);clear c9 cn CT k3 e3 I C8 NB;have k4:=C9.out.c4;have e5:=b4.out.1.c5;have CJ:=Zh (zQ nd.attrs AV nV cV C9.out HW.out HS.out b4.out.2 E.out);go_upto_region 29 with(go_at_call 68;refine CJ.out.mono ?_;rintro e wJ ⟨AJ,nJ,cJ,rfl,S,aa,T,cj⟩);have U:=Zh cj;have u:=Zh S;have NJ:=Zh (b4.out.below T);clear cj S aa T CJ k4 e5 C9 b4;have e5:=NJ.out.1.c5;have JM:=P3.FN (l:=nd.attrs) (m:=ts[i].attrs) E.out HS.out.mB;have j8:=(vH JM).2;have n8:=(vH E.out).2;have jl:=u.out.len;have J:=NJ.out.2.len;simp only at jl J;have K:Hid (fA 69 #[.slice AJ nJ cJ,.slice AV nV cV] wJ fun e w'=>e= .returned (.bool (P3.zD (P3.aC nd.attrs ts[i].attrs) nd.attrs))/\eA wJ w'):=Zh (P3.lM (P3.aC nd.attrs ts[i].attrs) nd.attrs AJ AV nJ nV cJ cV wJ jl J cA cA (UE u.out.holds) (UE NJ.out.2.holds));have b1:=Zh JM;obtain⟨sm,L⟩:=qA (P3.zD (P3.aC nd.attrs ts[i].attrs) nd.attrs);rw[L] at K;have b3:=Zh L;clear L JM j8 n8 jl J;go_upto_region 30 with(go_at_call 69;refine K.out.mono ?_;rintro e wS ⟨rfl,M⟩);have CS:=Zh (U.out.below M);have AS:=Zh (u.out.below M);clear M U u NJ K e5;have I:=CS.out.c0;rw[h2] at I;go_wp2_with fail;go_roundw
           case rel=>exact PH (p:=(GA m.1 (eE a ts[i].txt),m.2)) O LQ.out CS.out (by rw[ET.out h3,rP (by rw[F.out];exact h2),if_pos (by rw[bo.out,SQ];exact b0),SQ]) _ (by go_num)
           case measure=>simp[intOf];omega
         have dt:(ts[i].kind==2)=false:=beq_eq_false_iff_ne.2 h2;by_cases Q:ts[i].kind=1
         ·go_upto_region 28 with fail;clear k3 e3 I;have k4:=C8.out.c4;have e5:=NB.out.1.c5;have CJ:=Zh (zQ nd.attrs AV nV cV C8.out HW.out HS.out NB.out.2 E.out);go_upto_region 29 with(go_at_call 68;refine CJ.out.mono ?_;rintro e wJ ⟨AJ,nJ,cJ,rfl,S,aa,T,cj⟩);have U:=Zh cj;have u:=Zh S;have NJ:=Zh (NB.out.below T);clear cj S aa T CJ k4 e5 C8 NB;have e5:=NJ.out.1.c5;have JM:=P3.FN (l:=nd.attrs) (m:=ts[i].attrs) E.out HS.out.mB;have j8:=(vH JM).2;have n8:=(vH E.out).2;have jl:=u.out.len;have J:=NJ.out.2.len;simp only at jl J;have K:Hid (fA 69 #[.slice AJ nJ cJ,.slice AV nV cV] wJ fun e w'=>e= .returned (.bool (P3.zD (P3.aC nd.attrs ts[i].attrs) nd.attrs))/\eA wJ w'):=Zh (P3.lM (P3.aC nd.attrs ts[i].attrs) nd.attrs AJ AV nJ nV cJ cV wJ jl J cA cA (UE u.out.holds) (UE NJ.out.2.holds));have b1:=Zh JM;obtain⟨sm,L⟩:=qA (P3.zD (P3.aC nd.attrs ts[i].attrs) nd.attrs);rw[L] at K;have b3:=Zh L;clear L JM j8 n8 jl J;go_upto_region 30 with(go_at_call 69;refine K.out.mono ?_;rintro e wS ⟨rfl,M⟩);have CS:=Zh (U.out.below M);have AS:=Zh (u.out.below M);clear M U u NJ K e5;have I:=CS.out.c0;rw[Q] at I;obtain⟨sE,a3⟩:=qA (KF (er ts[i]) a m.1);have b5:=Zh a3;have an:Hid (PD (QC f) par beh ids (er ts[i]) ((tk ids y ts)[i]'(by rw[wH];exact H)) (aw f par beh ids y rs ts i)=(QC f sE a (xA sE.1.l a) (oA ts[i].kids),m.2)):=Zh (by
           rw[ET.out h3,sP (by rw[F.out];exact Q),b5.out,nF])
          have HE:=e9 (t:=ts[i]) bo.out;rw[a3,b3.out] at HE;cases sm with
          |true=>
           rw[if_neg nA] at HE;subst HE;have V:=Zh az.out;have X:=Zh cm.out;have ab:Hid (m.1.1.n+(eB (oA ts[i].kids):Nat)<=90000):=Zh (by rw[a2.out];omega);have ac:Hid (m.1.2.length+2000*(eB (oA ts[i].kids)+1)<=800000):=Zh (by rw[a2.out];omega);go_upto_region 32 with fail;clear I;have I:=CS.out.c0;rw[Q] at I;have g0:=CS.out.g0;have k5:=CS.out.c5;obtain⟨f2,ad⟩:∃f2,f=f2+1:=⟨f-1,by have:=a6.out;rw[lH] at this;omega⟩;have ae:Hid (dL (oA ts[i].kids)<=f2):=Zh (by have:=a6.out;rw[lH,nF] at this;omega);have KC:Hid (∀d,eA wS d->fA 33 #[iA q,aA a] d fun e w'=>(∃A n c,e= .returned (.slice A n c)/\kI.Own d 0 (.slice A n c) (xA m.1.1.l a))/\d=w'):=Zh (fun d Z=>yQ a (CS.out.below Z) V.out);have PC:Hid (∀d A n c,eA wS d->kI.Own d 0 (.slice A n c) (xA m.1.1.l a)->fA 32 #[iA g,aA a,.slice A n c,aA 0,.slice ts[i].sk.A ts[i].sk.n ts[i].sk.c] d fun e w'=>e= .returned (.tuple #[])/\Cx w5 B g q y v rs bx ts[i] (.slice AM nM cM) m.2 (QC f m.1 a (xA m.1.1.l a) (oA ts[i].kids)) w'):=Zh (fun d A n c Z ho=>by
            subst ad;exact fQ ap.out f2 ae.out a A n c (CS.out.below Z) V.out X.out ai.out ho HW.out HS.out am.out ab.out ac.out)
           go_upto_region 33 with fail;go_region_held3 (fun w'=>w'.cell? (dA g 0)=some (iA q)/\w'.cell? (dA bx 5)=some (.slice ts[i].sk.A ts[i].sk.n ts[i].sk.c)) (first|go_keep|exact K6) ((first
            |(go_at_call 33;refine(KC.out _ (by first|exact PA Ze _|exact Ze.drew)).mono ?_;rintro e w8 ⟨⟨A9,n9,c9,rfl,Y⟩,rfl⟩;have O9:=Zh Y;clear Y)
            |(go_at_call 32;refine(PC.out _ _ _ _ (by first|exact PA Ze _|exact Ze.drew) (by first|exact O9.out|exact O9.out.drewN _)).mono ?_;rintro e w9 ⟨rfl,D⟩;have C9:=Zh D;have K6:=And.intro D.g0 D.c5;clear D)
            |fail))
           go_wp2_with fail;go_roundw
           case rel=>exact PH (p:=(QC f m.1 a (xA m.1.1.l a) (oA ts[i].kids),m.2)) O LQ.out C9.out (an.out) _ (by go_num)
           case measure=>simp[intOf];omega
          |false=>
           rw[if_pos rfl] at HE;have CA:=Zh (Q9 a (P3.aC nd.attrs ts[i].attrs) AJ nJ cJ CS.out az.out cA cA AS.out b1.out);rw[<-HE] at CA;have V:Hid (WF sE.1):=Zh (by rw[HE];exact fE az.out _);have X:Hid (pG sE.1):=Zh (by rw[HE];exact lG YG cm.out _);have NE:sE.1.n<=p.1.1.n:=(by rw[HE,SH _ (show(4:Int)≠1 by decide)];omega);have LE:sE.2.length<=p.1.2.length+202:=by
            have:=GG m.1 (rC a (P3.aC nd.attrs ts[i].attrs));rw[HE];omega
           have ab:Hid (sE.1.n+(eB (oA ts[i].kids):Nat)<=90000):=Zh (by rw[a2.out];omega);have ac:Hid (sE.2.length+2000*(eB (oA ts[i].kids)+1)<=800000):=Zh (by rw[a2.out];omega);clear HE a3 NE LE;go_upto_region 32 with(go_at_call 65;refine CA.out.mono ?_;rintro e a4 ⟨rfl,ao⟩);have P:=Zh ao;clear ao CA I;have I:=P.out.c0;rw[Q] at I;have g0:=P.out.g0;have k5:=P.out.c5;obtain⟨f2,ad⟩:∃f2,f=f2+1:=⟨f-1,by have:=a6.out;rw[lH] at this;omega⟩;have ae:Hid (dL (oA ts[i].kids)<=f2):=Zh (by have:=a6.out;rw[lH,nF] at this;omega);have KC:Hid (∀d,eA a4 d->fA 33 #[iA q,aA a] d fun e w'=>(∃A n c,e= .returned (.slice A n c)/\kI.Own d 0 (.slice A n c) (xA sE.1.l a))/\d=w'):=Zh (fun d Z=>yQ a (P.out.below Z) V.out);have PC:Hid (∀d A n c,eA a4 d->kI.Own d 0 (.slice A n c) (xA sE.1.l a)->fA 32 #[iA g,aA a,.slice A n c,aA 0,.slice ts[i].sk.A ts[i].sk.n ts[i].sk.c] d fun e w'=>e= .returned (.tuple #[])/\Cx w5 B g q y v rs bx ts[i] (.slice AM nM cM) m.2 (QC f sE a (xA sE.1.l a) (oA ts[i].kids)) w'):=Zh (fun d A n c Z ho=>by
            subst ad;exact fQ ap.out f2 ae.out a A n c (P.out.below Z) V.out X.out ai.out ho HW.out HS.out am.out ab.out ac.out)
           go_upto_region 33 with fail;go_region_held3 (fun w'=>w'.cell? (dA g 0)=some (iA q)/\w'.cell? (dA bx 5)=some (.slice ts[i].sk.A ts[i].sk.n ts[i].sk.c)) (first|go_keep|exact K6) ((first
            |(go_at_call 33;refine(KC.out _ (by first|exact PA Ze _|exact Ze.drew)).mono ?_;rintro e w8 ⟨⟨A9,n9,c9,rfl,Y⟩,rfl⟩;have O9:=Zh Y;clear Y)
            |(go_at_call 32;refine(PC.out _ _ _ _ (by first|exact PA Ze _|exact Ze.drew) (by first|exact O9.out|exact O9.out.drewN _)).mono ?_;rintro e w9 ⟨rfl,D⟩;have C9:=Zh D;have K6:=And.intro D.g0 D.c5;clear D)
            |fail))
           go_wp2_with fail;go_roundw
           case rel=>exact PH (p:=(QC f sE a (xA sE.1.l a) (oA ts[i].kids),m.2)) O LQ.out C9.out (an.out) _ (by go_num)
           case measure=>simp[intOf];omega
         ·have co:(ts[i].kind==1)=false:=beq_eq_false_iff_ne.2 Q;go_upto_region 28 with fail;clear k3 e3 I;have k4:=C8.out.c4;have e5:=NB.out.1.c5;have CJ:=Zh (zQ nd.attrs AV nV cV C8.out HW.out HS.out NB.out.2 E.out);go_upto_region 29 with(go_at_call 68;refine CJ.out.mono ?_;rintro e wJ ⟨AJ,nJ,cJ,rfl,S,aa,T,cj⟩);have U:=Zh cj;have u:=Zh S;have NJ:=Zh (NB.out.below T);clear cj S aa T CJ k4 e5 C8 NB;have e5:=NJ.out.1.c5;have JM:=P3.FN (l:=nd.attrs) (m:=ts[i].attrs) E.out HS.out.mB;have j8:=(vH JM).2;have n8:=(vH E.out).2;have jl:=u.out.len;have J:=NJ.out.2.len;simp only at jl J;have K:Hid (fA 69 #[.slice AJ nJ cJ,.slice AV nV cV] wJ fun e w'=>e= .returned (.bool (P3.zD (P3.aC nd.attrs ts[i].attrs) nd.attrs))/\eA wJ w'):=Zh (P3.lM (P3.aC nd.attrs ts[i].attrs) nd.attrs AJ AV nJ nV cJ cV wJ jl J cA cA (UE u.out.holds) (UE NJ.out.2.holds));have b1:=Zh JM;obtain⟨sm,L⟩:=qA (P3.zD (P3.aC nd.attrs ts[i].attrs) nd.attrs);rw[L] at K;have b3:=Zh L;clear L JM j8 n8 jl J;go_upto_region 30 with(go_at_call 69;refine K.out.mono ?_;rintro e wS ⟨rfl,M⟩);have CS:=Zh (U.out.below M);have AS:=Zh (u.out.below M);clear M U u NJ K e5;have I:=CS.out.c0;go_wp2_with fail;go_roundw
          case rel=>exact PH (p:=(m.1,m.2)) O LQ.out CS.out (by rw[ET.out h3,NT (by rw[F.out];exact Q) (by rw[F.out];exact h2)]) _ (by go_num)
          case measure=>simp[intOf];omega
     ·by_cases h3:ts[i].kind=3
      ·rw[h3] at I
       as_aux_lemma=>
        go_wp2_with fail;go_roundw
        case rel=>exact PH (p:=aw f par beh ids y rs ts i) O LQ.out C1.out (step_skip (by rw[F.out];exact h3) (by rw[aq.out];exact ht)) _ (by go_num)
        case measure=>simp[intOf];omega
      ·have n3:(ts[i].kind==3)=false:=beq_eq_false_iff_ne.2 h3
       as_aux_lemma=>
        generalize hP:aw f par beh ids y rs ts i=p at C1 AF;have HP:=Zh hP;have bp:Hid (WF p.1.1):=Zh AF.out.lv.wf;have bh:p.1.1.n+(jE (er ts[i]):Nat)<=90000:=AF.out.num;have bj:p.1.2.length+2000*jE (er ts[i])+2000<=800000:=AF.out.log;have SZ:jE (er ts[i])=1+eB (oA ts[i].kids):=(by rw[tJ,TE];rfl);obtain⟨zk,a9⟩:=qA (eB (oA ts[i].kids));rw[SZ,a9] at bh bj;have am:Hid (eB (oA ts[i].kids)<=1000):=Zh (by have:=AF.out.EG;rw[SZ] at this;omega);have a2:=Zh a9;clear a9 SZ hP;have g0:=C1.out.g0;have q1:=C1.out.q1;have k1:=C1.out.c1;have k2:=C1.out.c2;have k3:=C1.out.c3;have CM:=Zh (Qo (p.1.1.n+1) C1.out bp.out cA cA HS.out);go_upto_region 21 with(go_at_call 65;refine CM.out.mono ?_;rintro e w7 ⟨rfl,c7⟩);have C7:=Zh c7;have W7:Hid (WF (GA p.1 (jB (p.1.1.n+1) ts[i].tag ts[i].txt ts[i].key)).1):=Zh (fE bp.out _);have N7:=mR p.1 (jB (p.1.1.n+1) ts[i].tag ts[i].txt ts[i].key);have L7:=GG p.1 (jB (p.1.1.n+1) ts[i].tag ts[i].txt ts[i].key);have M7:Hid (pG (GA p.1 (jB (p.1.1.n+1) ts[i].tag ts[i].txt ts[i].key)).1):=Zh (lG YG AF.out.may _);clear c7 CM g0 q1 k1 k2 k3;have CN:=Zh (Ro beh AL nL cL C7.out);have CP:=Zh (Cq (p.1.1.n+1) par (aB p.2 beh) C7.out W7.out cA cA);go_upto_region 22 with(first|(go_at_call 66;refine zA CN.out ?_)|(go_at_call 65;refine CP.out.mono ?_;rintro e w9 ⟨rfl,c9⟩));have W9:Hid (WF (YD par (aB p.2 beh) (er ts[i]) p.1).1):=Zh (by rw[bL];exact fE W7.out _);have M9:Hid (pG (YD par (aB p.2 beh) (er ts[i]) p.1).1):=Zh (by rw[bL];exact lG YG M7.out _);have N9:(YD par (aB p.2 beh) (er ts[i]) p.1).1.n<=p.1.1.n+1:=by
         rw[bL,SH _ (show(2:Int)≠1 by decide)];exact N7
        have L9:(YD par (aB p.2 beh) (er ts[i]) p.1).2.length<=p.1.2.length+2:=by
         have:=GG (GA p.1 (jB (p.1.1.n+1) ts[i].tag ts[i].txt ts[i].key)) (vB (p.1.1.n+1) par (aB p.2 beh));rw[bL];omega
        have C9:Hid (Cx w5 B g q y v rs bx ts[i] (.slice AL nL cL) p.2 (YD par (aB p.2 beh) (er ts[i]) p.1) w9):=Zh (by rw[bL];exact c9);have ai:Hid (p.1.1.n+1≠0):=Zh (uA bp.out.n0);clear c9 CN CP C7 W7 M7 N7 L7;have CQ:=Zh (Dq C9.out HW.out HS.out);have k4:=C9.out.c4;go_upto_region 23 with(go_at_call 67;refine CQ.out.mono ?_;rintro e b6 ⟨AN,nN,cN,rfl,a8,cp⟩);have a0:=Zh cp;have AT:=Zh a8;have a7:(P3.pC ts[i].attrs).length=nN:=a8.len;clear cp a8 CQ C9 k4;obtain⟨sE,a3⟩:=qA (rF par (aB p.2 beh) (er ts[i]) p.1);have b5:=Zh a3;have cq:Hid (¬0<=((tk ids y ts)[i]'(by rw[wH];exact H))):=Zh (by rw[aq.out];omega);have cr:Hid (ts[i].kind≠1->PD (QC f) par beh ids (er ts[i]) ((tk ids y ts)[i]'(by rw[wH];exact H)) (aw f par beh ids y rs ts i)=(sE,p.2)):=Zh (fun Q=>by
         rw[HP.out,KT (by rw[F.out];exact h4) (by rw[F.out];exact h3) cq.out,VU (by rw[F.out];exact Q),b5.out])
        have an:Hid (ts[i].kind=1->PD (QC f) par beh ids (er ts[i]) ((tk ids y ts)[i]'(by rw[wH];exact H)) (aw f par beh ids y rs ts i)=(QC f sE (p.1.1.n+1) (xA sE.1.l (p.1.1.n+1)) (oA ts[i].kids),p.2)):=Zh (fun Q=>by
         rw[HP.out,KT (by rw[F.out];exact h4) (by rw[F.out];exact h3) cq.out,sQ (by rw[F.out];exact Q),b5.out,nF])
        by_cases Z:P3.pC ts[i].attrs=[]
        ·rw[Z] at a7;obtain rfl:0=nN:=a7;have HE:=yU (par:=par) (b:=aB p.2 beh) (s:=p.1) Z;rw[a3] at HE;rw[<-HE] at a0 W9 M9 N9 L9;have V:=Zh W9.out;have X:=Zh M9.out;have ab:Hid (sE.1.n+(eB (oA ts[i].kids):Nat)<=90000):=Zh (by rw[a2.out];omega);have ac:Hid (sE.2.length+2000*(eB (oA ts[i].kids)+1)<=800000):=Zh (by rw[a2.out];omega);clear W9 M9 N9 L9 HE a3 AT;go_upto_region 32 with fail;by_cases Q:ts[i].kind=1
         ·have I:=a0.out.c0;rw[Q] at I;have g0:=a0.out.g0;have k5:=a0.out.c5;obtain⟨f2,ad⟩:∃f2,f=f2+1:=⟨f-1,by have:=a6.out;rw[lH] at this;omega⟩;have ae:Hid (dL (oA ts[i].kids)<=f2):=Zh (by have:=a6.out;rw[lH,nF] at this;omega);have KC:Hid (∀d,eA b6 d->fA 33 #[iA q,aA (p.1.1.n+1)] d fun e w'=>(∃A n c,e= .returned (.slice A n c)/\kI.Own d 0 (.slice A n c) (xA sE.1.l (p.1.1.n+1)))/\d=w'):=Zh (fun d Z=>yQ (p.1.1.n+1) (a0.out.below Z) V.out);have PC:Hid (∀d A n c,eA b6 d->kI.Own d 0 (.slice A n c) (xA sE.1.l (p.1.1.n+1))->fA 32 #[iA g,aA (p.1.1.n+1),.slice A n c,aA 0,.slice ts[i].sk.A ts[i].sk.n ts[i].sk.c] d fun e w'=>e= .returned (.tuple #[])/\Cx w5 B g q y v rs bx ts[i] (.slice AL nL cL) p.2 (QC f sE (p.1.1.n+1) (xA sE.1.l (p.1.1.n+1)) (oA ts[i].kids)) w'):=Zh (fun d A n c Z ho=>by
           subst ad;exact fQ ap.out f2 ae.out (p.1.1.n+1) A n c (a0.out.below Z) V.out X.out ai.out ho HW.out HS.out am.out ab.out ac.out)
          go_upto_region 33 with fail;go_region_held3 (fun w'=>w'.cell? (dA g 0)=some (iA q)/\w'.cell? (dA bx 5)=some (.slice ts[i].sk.A ts[i].sk.n ts[i].sk.c)) (first|go_keep|exact K6) ((first
           |(go_at_call 33;refine(KC.out _ (by first|exact PA Ze _|exact Ze.drew)).mono ?_;rintro e w8 ⟨⟨A9,n9,c9,rfl,Y⟩,rfl⟩;have O9:=Zh Y;clear Y)
           |(go_at_call 32;refine(PC.out _ _ _ _ (by first|exact PA Ze _|exact Ze.drew) (by first|exact O9.out|exact O9.out.drewN _)).mono ?_;rintro e w9 ⟨rfl,D⟩;have C9:=Zh D;have K6:=And.intro D.g0 D.c5;clear D)
           |fail))
          go_wp2_with fail;go_roundw
          case rel=>exact PH (p:=(QC f sE (p.1.1.n+1) (xA sE.1.l (p.1.1.n+1)) (oA ts[i].kids),p.2)) O LQ.out C9.out (an.out Q) _ (by go_num)
          case measure=>simp[intOf];omega
         ·have co:(ts[i].kind==1)=false:=beq_eq_false_iff_ne.2 Q;have I:=a0.out.c0;go_wp2_with fail;go_roundw
          case rel=>exact PH (p:=(sE,p.2)) O LQ.out a0.out (cr.out Q) _ (by go_num)
          case measure=>simp[intOf];omega
        ·have hp:0<nN:=by
          rcases Nat.eq_zero_or_pos nN with e|e
          ·rw[e] at a7;exact absurd (List.length_eq_zero_iff.1 a7) Z
          ·exact e
         have du:(0:Int)<(nN:Int):=cA;have HE:=Y8 (par:=par) (b:=aB p.2 beh) (s:=p.1) Z;rw[a3] at HE;have CA:=Zh (Q9 (p.1.1.n+1) (P3.pC ts[i].attrs) AN nN cN a0.out W9.out cA cA AT.out (P3.YZ HS.out.mB));rw[<-HE] at CA;have V:Hid (WF sE.1):=Zh (by rw[HE];exact fE W9.out _);have X:Hid (pG sE.1):=Zh (by rw[HE];exact lG YG M9.out _);have NE:sE.1.n<=p.1.1.n+1:=(by rw[HE,SH _ (show(4:Int)≠1 by decide)];exact N9);have LE:sE.2.length<=p.1.2.length+3:=by
          have:=GG (YD par (aB p.2 beh) (er ts[i]) p.1) (rC (p.1.1.n+1) (P3.pC ts[i].attrs));rw[HE];omega
         have ab:Hid (sE.1.n+(eB (oA ts[i].kids):Nat)<=90000):=Zh (by rw[a2.out];omega);have ac:Hid (sE.2.length+2000*(eB (oA ts[i].kids)+1)<=800000):=Zh (by rw[a2.out];omega);clear W9 M9 N9 L9 HE a3 NE LE a0 AT;go_upto_region 32 with(go_at_call 65;refine CA.out.mono ?_;rintro e a4 ⟨rfl,ao⟩);have P:=Zh ao;clear ao CA;by_cases Q:ts[i].kind=1
         ·have I:=P.out.c0;rw[Q] at I;have g0:=P.out.g0;have k5:=P.out.c5;obtain⟨f2,ad⟩:∃f2,f=f2+1:=⟨f-1,by have:=a6.out;rw[lH] at this;omega⟩;have ae:Hid (dL (oA ts[i].kids)<=f2):=Zh (by have:=a6.out;rw[lH,nF] at this;omega);have KC:Hid (∀d,eA a4 d->fA 33 #[iA q,aA (p.1.1.n+1)] d fun e w'=>(∃A n c,e= .returned (.slice A n c)/\kI.Own d 0 (.slice A n c) (xA sE.1.l (p.1.1.n+1)))/\d=w'):=Zh (fun d Z=>yQ (p.1.1.n+1) (P.out.below Z) V.out);have PC:Hid (∀d A n c,eA a4 d->kI.Own d 0 (.slice A n c) (xA sE.1.l (p.1.1.n+1))->fA 32 #[iA g,aA (p.1.1.n+1),.slice A n c,aA 0,.slice ts[i].sk.A ts[i].sk.n ts[i].sk.c] d fun e w'=>e= .returned (.tuple #[])/\Cx w5 B g q y v rs bx ts[i] (.slice AL nL cL) p.2 (QC f sE (p.1.1.n+1) (xA sE.1.l (p.1.1.n+1)) (oA ts[i].kids)) w'):=Zh (fun d A n c Z ho=>by
           subst ad;exact fQ ap.out f2 ae.out (p.1.1.n+1) A n c (P.out.below Z) V.out X.out ai.out ho HW.out HS.out am.out ab.out ac.out)
          go_upto_region 33 with fail;go_region_held3 (fun w'=>w'.cell? (dA g 0)=some (iA q)/\w'.cell? (dA bx 5)=some (.slice ts[i].sk.A ts[i].sk.n ts[i].sk.c)) (first|go_keep|exact K6) ((first
           |(go_at_call 33;refine(KC.out _ (by first|exact PA Ze _|exact Ze.drew)).mono ?_;rintro e w8 ⟨⟨A9,n9,c9,rfl,Y⟩,rfl⟩;have O9:=Zh Y;clear Y)
           |(go_at_call 32;refine(PC.out _ _ _ _ (by first|exact PA Ze _|exact Ze.drew) (by first|exact O9.out|exact O9.out.drewN _)).mono ?_;rintro e w9 ⟨rfl,D⟩;have C9:=Zh D;have K6:=And.intro D.g0 D.c5;clear D)
           |fail))
          go_wp2_with fail;go_roundw
          case rel=>exact PH (p:=(QC f sE (p.1.1.n+1) (xA sE.1.l (p.1.1.n+1)) (oA ts[i].kids),p.2)) O LQ.out C9.out (an.out Q) _ (by go_num)
          case measure=>simp[intOf];omega
         ·have co:(ts[i].kind==1)=false:=beq_eq_false_iff_ne.2 Q;have I:=P.out.c0;go_wp2_with fail;go_roundw
          case rel=>exact PH (p:=(sE,p.2)) O LQ.out P.out (cr.out Q) _ (by go_num)
          case measure=>simp[intOf];omega
    ·as_aux_lemma=>
      obtain rfl:i=n':=cA
      have af:=Vo (f:=f) (beh:=beh) P5.out;have ah:=Fq (f:=f) (par:=par) (beh:=beh) (ids:=ids) (y:=y) (rs:=rs) (ts:=ts);rw[LQ.out] at af ah;generalize aw f par beh ids y rs ts i=p at HO HR af ah;obtain⟨cs,bn,dv,dh⟩:=af;have WL:=Zh cs;have di:=Zh ah;have a7:Hid (p.2.length=nL):=Zh (ZE HO.out).1;have dw:nL<=200:=(uA a7.out);have SG:Hid (Rb w5 B g q y v rs p.2 p.1 nL (.slice AL nL cL) (aA 0) wr):=Zh ⟨0,by omega,rfl,Zh HR.out,HO⟩;clear HO HR cs ah dh c6 O;go_wp2_with fail;go_loopw [23] (fun br wr=>Rb w5 B g q y v rs p.2 p.1 nL (.slice AL nL cL) br wr) (fun br _=>nL-(intOf br).toNat)
      case atStart=>exact SG.out
      case round=>
       clear SG;obtain⟨j,hj,rfl,HR,HO⟩:=hrel;by_cases d8:j<nL
       ·have al:j<p.2.length:=(uA a7.out);obtain⟨o1,_,_,_,o5⟩:=ZE HO.out;obtain⟨bl,ol,rfl,_,g0⟩:=mD o5 al;obtain⟨y2,v2,bs,k2,e2⟩:=HR.out;have GL:=EP (p.2.take j) p.1;have bu:=Kf (p.2.take j) p.2[j] p.1;rw[<-List.take_succ_eq_append_getElem al,<-e2] at bu;have GW:WF y2.d:=by
         have:=J2 (p.2.take j) WL.out;rw[<-e2] at this;exact this
        have gn:y2.n<=100000:=by
         have:=GL.1;rw[<-e2] at this;have h9:y2.d.n=y2.n:=rfl;simp only at this;omega
        have gl:bs.length<=1000000:=by
         have:=GL.2;rw[<-e2] at this;simp only[List.length_map,List.length_take] at this;omega
        have CG:=Zh (Aq p.2[j] _ GW gn gl k2.wk);have bv:=Zh bu;have K2:=Zh k2;clear k2 e2 GL bu GW gn gl HR o1 o5;generalize p.2[j]=ij at g0 CG bv;go_wp2_with fail;refine CG.out.mono ?_;rintro e w7 ⟨rfl,y3,v3,dj,k3,e3,_⟩;have dk:Hid (∃y' v' rs',nC w5 B g q y v y' v' rs' w7/\(y'.d,rs'.map (·.r))=xD (p.2.take (j+1)) p.1):=Zh ⟨y3,v3,dj,K2.out.trans k3,e3.trans bv.out.symm⟩;have dl:=Zh (k3.ints K2.out.wk HO.out);clear k3 e3 CG bv K2 g0 HO;go_wp2_with fail;go_roundw
        case rel=>exact⟨j+1,by omega,by go_num,dk,dl⟩
        case measure=>simp[intOf];omega
       ·obtain rfl:j=nL:=cA
        go_wp2_with fail
        go_end0
        obtain⟨y2,v2,bs,k2,e2⟩:=HR.out;rw[List.take_of_length_le (by rw[a7.out];exact Zl),di.out] at e2;exact⟨rfl,y2,v2,bs,(nC.sC cx.out B5.out).trans k2,e2⟩
theorem Zd(t:WV):rO t.kids:=by
 induction t using WV.ind with
 |h kind tag key txt sa attrs sk kids ih=>exact QY kids (fun k a=>ih k a)
theorem qX(ts:List WV):rO ts:=QY ts (fun t _=>Zd t)
end P19
end Go.Proofs.YtngnkmeaaneklaaGreat
