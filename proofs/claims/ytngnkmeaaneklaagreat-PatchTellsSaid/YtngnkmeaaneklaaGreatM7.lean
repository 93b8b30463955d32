/- A part of the proof. No condition. -/
import Derived.Test.YtngnkmeaaneklaaGreatM1
import Derived.Test.YtngnkmeaaneklaaGreatM4
import Derived.Test.YtngnkmeaaneklaaGreatM5
import Derived.Test.YtngnkmeaaneklaaGreatM6
set_option linter.unusedVariables false
set_option linter.unusedSimpArgs false
set_option maxRecDepth 100000
set_option maxHeartbeats 40000000
namespace Go.Proofs.YtngnkmeaaneklaaGreat
open Tryz
namespace P5
open Go.RowKit Kd P4
variable{B q:Nat}{y:Rx}
theorem mo(r:Rc)(A:jA)(n c:Nat)(w:World)(ha:EB y.l)(hl:y.rs.length<=1000)(hi:lA y.l r.id=true)(hp:lA y.l r.par=true)(hq:(r.rA != 0)=true)(hb:lA y.l r.rA=true)(h1:(r.id==1)=false)(hnk:wB (MA y.l r.par)=false)(hpp:(yA y.l r.rA != r.par)=true)(h:Rf w B q y):fA 90 #[iA q,.agg (JA r A n c)] w (gC w B q y 1 y.d):=by
 have I:Hid (eA w (w.alloc (.cells (JA r A n c) 87))):=Zh (Zb _ _);have l:=Zh (bB.new w r A n c);have O:=Zh h;have f:=Zh ha;obtain⟨ki,P,t,_⟩:=FC ha hi;have u:=Zh t;obtain⟨kb,Q,v,_⟩:=FC ha hb;have x:=Zh v;clear h;go_enter func90,ntmps90;go_upto_region 1 with fail;generalize w.alloc (.cells (JA r A n c) 87)=W at I l|-;have H:=Zh (O.below I);have b1:=l.c1;have b2:=l.c2;have b3:=l.c3;obtain⟨k,i,hy,_⟩:=FC f hp;obtain⟨b,o,cl,J,K,M,z,C,p,R,S,hb,V,L,d,a⟩:=H.bG i;have a0:=Zh d;have a1:=Zh a;have N:=Zh hy;obtain⟨nl,j⟩:=qA y.rs.length;have a3:=Zh j;have a4:k<nl:=cA;have a5:nl<=1000:=cA;rw[j] at V S;obtain⟨m,D⟩:=qA (y.rs[k].nd);have HM:=Zh D;rw[D] at L;have l0:=L.c0;have l1:=L.c1;have l2:=L.c2;have l3:=L.c3;have l4:=L.c4;have l5:=L.c5;have l6:=L.c6;have l7:=L.c7;have X:=FA H.mA;have E:∀g,(Value.slice z C p).ownBlock=some g->cD q y g:=fun g hg=> .inr (.inr ⟨_,List.getElem_mem i,by rw[a];exact hg⟩)
 have a6:=Zh E;have T:=H.nodes _ (List.getElem_mem i);rw[show y.rs[k]=(⟨⟨J,K,M⟩,⟨z,C,p⟩,m⟩:Rn) by cases e:y.rs[k];rw[e] at d a D;cases d;cases a;cases D;rfl] at T;have HR:=Zh T;clear R d a j D L E T;have F:Hid (wB m.tag=false):=Zh (by rw[<-HM.out,<-(IG f.out i N.out).1];exact hnk);clear hnk;go_wp2_with fail;refine zA (rB r.id W f hl P u H) ?_;go_wp2_with fail;refine zA (rB r.par W f hl i N H) ?_;go_wp2_with fail;refine(rB r.rA W f hl Q x H).mono ?_;rintro e w' ⟨rfl,rfl⟩;go_upto_region 5 with fail;go_cut [5] (fun s5 Y=>s5 = iA W.heap.size/\Hid (eA W Y)/\Hid (LA Y W.heap.size m J K M z C p))
 case first=>
  go_region_held3 (fun w'=>w'.cell? (dA q 0)=some (.slice (some (dA b o)) nl cl)/\w'.cell? ⟨b,o+k*8,none⟩=some (aA m.id)/\w'.cell? ⟨b,o+k*8+1,none⟩=some (aA m.par)/\w'.cell? ⟨b,o+k*8+2,none⟩=some (bA m.tag)/\w'.cell? ⟨b,o+k*8+3,none⟩=some (bA m.txt)/\w'.cell? ⟨b,o+k*8+4,none⟩=some (bA m.key)/\w'.cell? ⟨b,o+k*8+5,none⟩=some (.slice J K M)/\w'.cell? ⟨b,o+k*8+6,none⟩=some (.slice z C p)/\w'.cell? ⟨b,o+k*8+7,none⟩=some (aA m.note)/\w'.cell? ⟨w.heap.size,2,none⟩=some (aA r.par)) (go_keep) ((first
   |(go_at_call 26;refine zA (rB r.par _ f hl i N (by exact H.drewN _)) ?_)
   |(go_at_call 26;refine zA (rB r.par _ f hl i N (by exact(H.alloc _).drewN _)) ?_)
   |fail))
  all_goals
   go_wp2_with fail;go_meet;exact⟨rfl,Zh ((Zb _ _).drew),Zh (heap_drew (LA.new W m J K M z C p))⟩
 case rest=>
  obtain⟨rfl,Z,N2⟩:=hcut;obtain⟨s,rfl⟩:∃s,s=wc:=⟨_,rfl⟩;clear l0 l1 l2 l3 l4 l5 l6 l7 V b1 b2 b3;have a2:=N2.c2;have G:=Zh (I.trans (Z.mono I.size));have H2:=Zh (O.below G);have U:=Zh (l.below Z l.lt);have a7:W.heap.size<s.heap.size:=N2.lt;go_wp2_with fail;refine zA (P1.gI m.tag s) ?_;have tE:m.tag.toList.isEmpty=false:=by
   cases e:m.tag.toList.isEmpty with
   |false=>rfl
   |true=>
    have:=F.out;unfold wB at this;rw[List.isEmpty_iff] at e;simp[e] at this
  have R:P1.fC m.tag.data.toList=false:=by
   cases e:P1.fC m.tag.data.toList with
   |false=>rfl
   |true=>
    have:=F.out;unfold wB at this;simp[e] at this
  rw[R];have c1:=U.c1;have p:=U.c2;have c3:=U.c3;have QP:Hid (∀k,fA 118 #[iA q,aA r.rA] (s.drewN k) fun e w'=>e= .returned (aA (yA y.l r.rA))/\∃m,w'=s.drewN m):=Zh (fun k=>(xN r.rA _ f hl (H2.drewN k)).mono fun _ _ ⟨he,hw⟩=>⟨he,k,hw.symm⟩);go_wp2_with fail;go_quiet ((first|(go_at_call 118;exact QP _)));go_wp2_with fail;go_ret;exact gC.same O (by exact PA G _) rfl
theorem po(r:Rc)(A:jA)(n c:Nat)(w:World)(ha:EB y.l)(hl:y.rs.length<=1000)(hi:lA y.l r.id=true)(hp:lA y.l r.par=true)(hq:(r.rA != 0)=true)(hb:lA y.l r.rA=true)(h1:(r.id==1)=false)(hnk:wB (MA y.l r.par)=false)(hpp:(yA y.l r.rA != r.par)=false)(hbi:(r.rA==r.id)=true)(h:Rf w B q y):fA 90 #[iA q,.agg (JA r A n c)] w (gC w B q y 1 y.d):=by
 have I:Hid (eA w (w.alloc (.cells (JA r A n c) 87))):=Zh (Zb _ _);have l:=Zh (bB.new w r A n c);have O:=Zh h;have f:=Zh ha;obtain⟨ki,P,t,_⟩:=FC ha hi;have u:=Zh t;obtain⟨kb,Q,v,_⟩:=FC ha hb;have x:=Zh v;clear h;go_enter func90,ntmps90;go_upto_region 1 with fail;generalize w.alloc (.cells (JA r A n c) 87)=W at I l|-;have H:=Zh (O.below I);have b1:=l.c1;have b2:=l.c2;have b3:=l.c3;obtain⟨k,i,hy,_⟩:=FC f hp;obtain⟨b,o,cl,J,K,M,z,C,p,R,S,hb,V,L,d,a⟩:=H.bG i;have a0:=Zh d;have a1:=Zh a;have N:=Zh hy;obtain⟨nl,j⟩:=qA y.rs.length;have a3:=Zh j;have a4:k<nl:=cA;have a5:nl<=1000:=cA;rw[j] at V S;obtain⟨m,D⟩:=qA (y.rs[k].nd);have HM:=Zh D;rw[D] at L;have l0:=L.c0;have l1:=L.c1;have l2:=L.c2;have l3:=L.c3;have l4:=L.c4;have l5:=L.c5;have l6:=L.c6;have l7:=L.c7;have X:=FA H.mA;have E:∀g,(Value.slice z C p).ownBlock=some g->cD q y g:=fun g hg=> .inr (.inr ⟨_,List.getElem_mem i,by rw[a];exact hg⟩)
 have a6:=Zh E;have T:=H.nodes _ (List.getElem_mem i);rw[show y.rs[k]=(⟨⟨J,K,M⟩,⟨z,C,p⟩,m⟩:Rn) by cases e:y.rs[k];rw[e] at d a D;cases d;cases a;cases D;rfl] at T;have HR:=Zh T;clear R d a j D L E T;have F:Hid (wB m.tag=false):=Zh (by rw[<-HM.out,<-(IG f.out i N.out).1];exact hnk);clear hnk;go_wp2_with fail;refine zA (rB r.id W f hl P u H) ?_;go_wp2_with fail;refine zA (rB r.par W f hl i N H) ?_;go_wp2_with fail;refine(rB r.rA W f hl Q x H).mono ?_;rintro e w' ⟨rfl,rfl⟩;go_upto_region 5 with fail;go_cut [5] (fun s5 Y=>s5 = iA W.heap.size/\Hid (eA W Y)/\Hid (LA Y W.heap.size m J K M z C p))
 case first=>
  go_region_held3 (fun w'=>w'.cell? (dA q 0)=some (.slice (some (dA b o)) nl cl)/\w'.cell? ⟨b,o+k*8,none⟩=some (aA m.id)/\w'.cell? ⟨b,o+k*8+1,none⟩=some (aA m.par)/\w'.cell? ⟨b,o+k*8+2,none⟩=some (bA m.tag)/\w'.cell? ⟨b,o+k*8+3,none⟩=some (bA m.txt)/\w'.cell? ⟨b,o+k*8+4,none⟩=some (bA m.key)/\w'.cell? ⟨b,o+k*8+5,none⟩=some (.slice J K M)/\w'.cell? ⟨b,o+k*8+6,none⟩=some (.slice z C p)/\w'.cell? ⟨b,o+k*8+7,none⟩=some (aA m.note)/\w'.cell? ⟨w.heap.size,2,none⟩=some (aA r.par)) (go_keep) ((first
   |(go_at_call 26;refine zA (rB r.par _ f hl i N (by exact H.drewN _)) ?_)
   |(go_at_call 26;refine zA (rB r.par _ f hl i N (by exact(H.alloc _).drewN _)) ?_)
   |fail))
  all_goals
   go_wp2_with fail;go_meet;exact⟨rfl,Zh ((Zb _ _).drew),Zh (heap_drew (LA.new W m J K M z C p))⟩
 case rest=>
  obtain⟨rfl,Z,N2⟩:=hcut;obtain⟨s,rfl⟩:∃s,s=wc:=⟨_,rfl⟩;clear l0 l1 l2 l3 l4 l5 l6 l7 V b1 b2 b3;have a2:=N2.c2;have G:=Zh (I.trans (Z.mono I.size));have H2:=Zh (O.below G);have U:=Zh (l.below Z l.lt);have a7:W.heap.size<s.heap.size:=N2.lt;go_wp2_with fail;refine zA (P1.gI m.tag s) ?_;have tE:m.tag.toList.isEmpty=false:=by
   cases e:m.tag.toList.isEmpty with
   |false=>rfl
   |true=>
    have:=F.out;unfold wB at this;rw[List.isEmpty_iff] at e;simp[e] at this
  have R:P1.fC m.tag.data.toList=false:=by
   cases e:P1.fC m.tag.data.toList with
   |false=>rfl
   |true=>
    have:=F.out;unfold wB at this;simp[e] at this
  rw[R];have c1:=U.c1;have p:=U.c2;have c3:=U.c3;have QP:Hid (∀k,fA 118 #[iA q,aA r.rA] (s.drewN k) fun e w'=>e= .returned (aA (yA y.l r.rA))/\∃m,w'=s.drewN m):=Zh (fun k=>(xN r.rA _ f hl (H2.drewN k)).mono fun _ _ ⟨he,hw⟩=>⟨he,k,hw.symm⟩);go_wp2_with fail;go_quiet ((first|(go_at_call 118;exact QP _)));go_wp2_with fail;go_ret;exact gC.same O (by exact PA G _) rfl
theorem qo(r:Rc)(A:jA)(n c:Nat)(w:World)(ha:EB y.l)(hl:y.rs.length<=1000)(hi:lA y.l r.id=true)(hp:lA y.l r.par=true)(hq:(r.rA != 0)=false)(h1:(r.id==1)=false)(hnk:wB (MA y.l r.par)=false)(hin:inside y.l r.par r.id=true)(h:Rf w B q y):fA 90 #[iA q,.agg (JA r A n c)] w (gC w B q y 5 y.d):=by
 have E:Hid (eA w (w.alloc (.cells (JA r A n c) 87))):=Zh (Zb _ _);have p:=Zh (bB.new w r A n c);have M:=Zh h;have f:=Zh ha;obtain⟨ki,N,t,_⟩:=FC ha hi;have u:=Zh t;clear h;go_enter func90,ntmps90;go_upto_region 1 with fail;generalize w.alloc (.cells (JA r A n c) 87)=W at E p|-;have H:=Zh (M.below E);have Z:=p.c1;have b2:=p.c2;have b3:=p.c3;obtain⟨k,i,hy,_⟩:=FC f hp;obtain⟨b,o,cl,F,G,I,v,x,s,O,P,hb,S,L,d,a⟩:=H.bG i;have a0:=Zh d;have a1:=Zh a;have J:=Zh hy;obtain⟨nl,j⟩:=qA y.rs.length;have a3:=Zh j;have a4:k<nl:=cA;have a5:nl<=1000:=cA;rw[j] at S P;obtain⟨m,z⟩:=qA (y.rs[k].nd);have HM:=Zh z;rw[z] at L;have l0:=L.c0;have l1:=L.c1;have l2:=L.c2;have l3:=L.c3;have l4:=L.c4;have l5:=L.c5;have l6:=L.c6;have l7:=L.c7;have T:=FA H.mA;have C:∀g,(Value.slice v x s).ownBlock=some g->cD q y g:=fun g hg=> .inr (.inr ⟨_,List.getElem_mem i,by rw[a];exact hg⟩)
 have a6:=Zh C;have Q:=H.nodes _ (List.getElem_mem i);rw[show y.rs[k]=(⟨⟨F,G,I⟩,⟨v,x,s⟩,m⟩:Rn) by cases e:y.rs[k];rw[e] at d a z;cases d;cases a;cases z;rfl] at Q;have HR:=Zh Q;clear O d a j z L C Q;have D:Hid (wB m.tag=false):=Zh (by rw[<-HM.out,<-(IG f.out i J.out).1];exact hnk);clear hnk;go_wp2_with fail;refine zA (rB r.id W f hl N u H) ?_;go_wp2_with fail;refine(rB r.par W f hl i J H).mono ?_;rintro e w' ⟨rfl,rfl⟩;go_upto_region 5 with fail;go_cut [5] (fun s5 U=>s5 = iA W.heap.size/\Hid (eA W U)/\Hid (LA U W.heap.size m F G I v x s))
 case first=>
  go_region_held3 (fun w'=>w'.cell? (dA q 0)=some (.slice (some (dA b o)) nl cl)/\w'.cell? ⟨b,o+k*8,none⟩=some (aA m.id)/\w'.cell? ⟨b,o+k*8+1,none⟩=some (aA m.par)/\w'.cell? ⟨b,o+k*8+2,none⟩=some (bA m.tag)/\w'.cell? ⟨b,o+k*8+3,none⟩=some (bA m.txt)/\w'.cell? ⟨b,o+k*8+4,none⟩=some (bA m.key)/\w'.cell? ⟨b,o+k*8+5,none⟩=some (.slice F G I)/\w'.cell? ⟨b,o+k*8+6,none⟩=some (.slice v x s)/\w'.cell? ⟨b,o+k*8+7,none⟩=some (aA m.note)/\w'.cell? ⟨w.heap.size,2,none⟩=some (aA r.par)) (go_keep) ((first
   |(go_at_call 26;refine zA (rB r.par _ f hl i J (by exact H.drewN _)) ?_)
   |(go_at_call 26;refine zA (rB r.par _ f hl i J (by exact(H.alloc _).drewN _)) ?_)
   |fail))
  all_goals
   go_wp2_with fail;go_meet;exact⟨rfl,Zh ((Zb _ _).drew),Zh (heap_drew (LA.new W m F G I v x s))⟩
 case rest=>
  obtain⟨rfl,V,X⟩:=hcut;obtain⟨K,rfl⟩:∃K,K=wc:=⟨_,rfl⟩;clear l0 l1 l2 l3 l4 l5 l6 l7 S Z b2 b3;have a2:=X.c2;have l:=Zh (E.trans (V.mono E.size));have H2:=Zh (M.below l);have R:=Zh (p.below V p.lt);have a7:W.heap.size<K.heap.size:=X.lt;go_wp2_with fail;refine zA (P1.gI m.tag K) ?_;have tE:m.tag.toList.isEmpty=false:=by
   cases e:m.tag.toList.isEmpty with
   |false=>rfl
   |true=>
    have:=D.out;unfold wB at this;rw[List.isEmpty_iff] at e;simp[e] at this
  have O:P1.fC m.tag.data.toList=false:=by
   cases e:P1.fC m.tag.data.toList with
   |false=>rfl
   |true=>
    have:=D.out;unfold wB at this;simp[e] at this
  rw[O];have c1:=R.c1;have s:=R.c2;have c3:=R.c3;go_wp2_with fail;go_quiet (fail);go_wp2_with fail;refine(fM r.par r.id _ f hl (by exact H2.drewN nq)).mono ?_;rintro e w5 ⟨rfl,Y⟩;have B5:=Zh ((PA l nq).trans (Y.mono (by exact l.size)));rw[hin];clear Y;go_wp2_with fail;go_ret;exact gC.same M B5 rfl
theorem so(r:Rc)(A:jA)(n c:Nat)(w:World)(ha:EB y.l)(hl:y.rs.length<=1000)(hi:lA y.l r.id=true)(hp:lA y.l r.par=true)(hq:(r.rA != 0)=true)(hb:lA y.l r.rA=true)(h1:(r.id==1)=false)(hnk:wB (MA y.l r.par)=false)(hpp:(yA y.l r.rA != r.par)=false)(hbi:(r.rA==r.id)=false)(hin:inside y.l r.par r.id=true)(h:Rf w B q y):fA 90 #[iA q,.agg (JA r A n c)] w (gC w B q y 5 y.d):=by
 have I:Hid (eA w (w.alloc (.cells (JA r A n c) 87))):=Zh (Zb _ _);have p:=Zh (bB.new w r A n c);have O:=Zh h;have d:=Zh ha;obtain⟨ki,P,u,_⟩:=FC ha hi;have v:=Zh u;obtain⟨kb,Q,x,_⟩:=FC ha hb;have z:=Zh x;clear h;go_enter func90,ntmps90;go_upto_region 1 with fail;generalize w.alloc (.cells (JA r A n c) 87)=W at I p|-;have H:=Zh (O.below I);have b1:=p.c1;have b2:=p.c2;have b3:=p.c3;obtain⟨k,i,hy,_⟩:=FC d hp;obtain⟨b,o,cl,J,K,M,C,D,s,R,S,hb,V,L,f,a⟩:=H.bG i;have a0:=Zh f;have a1:=Zh a;have N:=Zh hy;obtain⟨nl,j⟩:=qA y.rs.length;have a3:=Zh j;have a4:k<nl:=cA;have a5:nl<=1000:=cA;rw[j] at V S;obtain⟨m,E⟩:=qA (y.rs[k].nd);have HM:=Zh E;rw[E] at L;have l0:=L.c0;have l1:=L.c1;have l2:=L.c2;have l3:=L.c3;have l4:=L.c4;have l5:=L.c5;have l6:=L.c6;have l7:=L.c7;have X:=FA H.mA;have F:∀g,(Value.slice C D s).ownBlock=some g->cD q y g:=fun g hg=> .inr (.inr ⟨_,List.getElem_mem i,by rw[a];exact hg⟩)
 have a6:=Zh F;have T:=H.nodes _ (List.getElem_mem i);rw[show y.rs[k]=(⟨⟨J,K,M⟩,⟨C,D,s⟩,m⟩:Rn) by cases e:y.rs[k];rw[e] at f a E;cases f;cases a;cases E;rfl] at T;have HR:=Zh T;clear R f a j E L F T;have G:Hid (wB m.tag=false):=Zh (by rw[<-HM.out,<-(IG d.out i N.out).1];exact hnk);clear hnk;go_wp2_with fail;refine zA (rB r.id W d hl P v H) ?_;go_wp2_with fail;refine zA (rB r.par W d hl i N H) ?_;go_wp2_with fail;refine(rB r.rA W d hl Q z H).mono ?_;rintro e w' ⟨rfl,rfl⟩;go_upto_region 5 with fail;go_cut [5] (fun s5 Y=>s5 = iA W.heap.size/\Hid (eA W Y)/\Hid (LA Y W.heap.size m J K M C D s))
 case first=>
  go_region_held3 (fun w'=>w'.cell? (dA q 0)=some (.slice (some (dA b o)) nl cl)/\w'.cell? ⟨b,o+k*8,none⟩=some (aA m.id)/\w'.cell? ⟨b,o+k*8+1,none⟩=some (aA m.par)/\w'.cell? ⟨b,o+k*8+2,none⟩=some (bA m.tag)/\w'.cell? ⟨b,o+k*8+3,none⟩=some (bA m.txt)/\w'.cell? ⟨b,o+k*8+4,none⟩=some (bA m.key)/\w'.cell? ⟨b,o+k*8+5,none⟩=some (.slice J K M)/\w'.cell? ⟨b,o+k*8+6,none⟩=some (.slice C D s)/\w'.cell? ⟨b,o+k*8+7,none⟩=some (aA m.note)/\w'.cell? ⟨w.heap.size,2,none⟩=some (aA r.par)) (go_keep) ((first
   |(go_at_call 26;refine zA (rB r.par _ d hl i N (by exact H.drewN _)) ?_)
   |(go_at_call 26;refine zA (rB r.par _ d hl i N (by exact(H.alloc _).drewN _)) ?_)
   |fail))
  all_goals
   go_wp2_with fail;go_meet;exact⟨rfl,Zh ((Zb _ _).drew),Zh (heap_drew (LA.new W m J K M C D s))⟩
 case rest=>
  obtain⟨rfl,Z,N2⟩:=hcut;obtain⟨t,rfl⟩:∃t,t=wc:=⟨_,rfl⟩;clear l0 l1 l2 l3 l4 l5 l6 l7 V b1 b2 b3;have a2:=N2.c2;have l:=Zh (I.trans (Z.mono I.size));have H2:=Zh (O.below l);have U:=Zh (p.below Z p.lt);have a7:W.heap.size<t.heap.size:=N2.lt;go_wp2_with fail;refine zA (P1.gI m.tag t) ?_;have tE:m.tag.toList.isEmpty=false:=by
   cases e:m.tag.toList.isEmpty with
   |false=>rfl
   |true=>
    have:=G.out;unfold wB at this;rw[List.isEmpty_iff] at e;simp[e] at this
  have R:P1.fC m.tag.data.toList=false:=by
   cases e:P1.fC m.tag.data.toList with
   |false=>rfl
   |true=>
    have:=G.out;unfold wB at this;simp[e] at this
  rw[R];have c1:=U.c1;have s:=U.c2;have c3:=U.c3;have QP:Hid (∀k,fA 118 #[iA q,aA r.rA] (t.drewN k) fun e w'=>e= .returned (aA (yA y.l r.rA))/\∃m,w'=t.drewN m):=Zh (fun k=>(xN r.rA _ d hl (H2.drewN k)).mono fun _ _ ⟨he,hw⟩=>⟨he,k,hw.symm⟩);go_wp2_with fail;go_quiet ((first|(go_at_call 118;exact QP _)));go_wp2_with fail;refine(fM r.par r.id _ d hl (by exact H2.drewN nq)).mono ?_;rintro e w5 ⟨rfl,b5⟩;have B5:=Zh ((PA l nq).trans (b5.mono (by exact l.size)));rw[hin];clear b5;go_wp2_with fail;go_ret;exact gC.same O B5 rfl
variable{B q:Nat}{y:Rx}
theorem uo(r:Rc)(A:jA)(n c:Nat)(w:World)(ha:EB y.l)(hl:y.rs.length<=1000)(h0:tC y.l r.id r.par r.rA≠0)(h:Rf w B q y):fA 90 #[iA q,.agg (JA r A n c)] w (gC w B q y (tC y.l r.id r.par r.rA) y.d):=by
 cases hi:lA y.l r.id with
 |false=>
  have a:tC y.l r.id r.par r.rA=2:=(by unfold tC;rw[if_pos (.inl hi)]);rw[a];exact Un r A n c w ha hl hi h
 |true=>
 cases hp:lA y.l r.par with
 |false=>
  have a:tC y.l r.id r.par r.rA=2:=(by unfold tC;rw[if_pos (.inr (.inl hp))]);rw[a];exact Vn r A n c w ha hl hi hp h
 |true=>
 by_cases d:r.rA≠0/\lA y.l r.rA=false
 ·have a:tC y.l r.id r.par r.rA=2:=(by unfold tC;rw[if_pos (.inr (.inr d))]);rw[a];exact Xn r A n c w ha hl hi hp (by simpa using d.1) d.2 h
 have m:¬(lA y.l r.id=false\/lA y.l r.par=false\/r.rA≠0/\lA y.l r.rA=false):=(by rw[hi,hp];simpa using d);have f:r.rA=0\/r.rA≠0/\lA y.l r.rA=true:=by
  by_cases e:r.rA=0
  ·exact .inl e
  ·exact .inr ⟨e,by simpa[e] using d⟩
 by_cases g:r.id=1
 ·have a:tC y.l r.id r.par r.rA=4:=(by unfold tC;rw[if_neg m,if_pos g]);rw[a];rcases f with e|⟨e,i⟩
  ·exact Yn r A n c w ha hl hi hp (by simpa using e) (by simpa using g) h
  ·exact eo r A n c w ha hl hi hp (by simpa using e) i (by simpa using g) h
 have b:(r.id==1)=false:=(by simpa using g);cases hnk:wB (MA y.l r.par) with
 |true=>
  have a:tC y.l r.id r.par r.rA=3:=(by unfold tC;rw[if_neg m,if_neg g,if_pos hnk]);rw[a];rcases f with e|⟨e,i⟩
  ·exact jo r A n c w ha hl hi hp (by simpa using e) b hnk h
  ·exact lo r A n c w ha hl hi hp (by simpa using e) i b hnk h
 |false=>
 have o:¬wB (MA y.l r.par)=true:=(by rw[hnk];simp);by_cases j:r.rA≠0/\(yA y.l r.rA≠r.par\/r.rA=r.id)
 ·have a:tC y.l r.id r.par r.rA=1:=(by unfold tC;rw[if_neg m,if_neg g,if_neg o,if_pos j]);rw[a];obtain⟨e,i⟩:=f.resolve_left j.1;by_cases l:yA y.l r.rA=r.par
  ·exact po r A n c w ha hl hi hp (by simpa using e) i b hnk (by simpa using l) (by simpa using j.2.resolve_left (fun k=>k l)) h
  ·exact mo r A n c w ha hl hi hp (by simpa using e) i b hnk (by simpa using l) h
 cases hin:inside y.l r.par r.id with
 |true=>
  have a:tC y.l r.id r.par r.rA=5:=(by unfold tC;rw[if_neg m,if_neg g,if_neg o,if_neg j,if_pos hin]);rw[a];rcases f with e|⟨e,i⟩
  ·exact qo r A n c w ha hl hi hp (by simpa using e) b hnk hin h
  ·simp only[not_and,not_or] at j;exact so r A n c w ha hl hi hp (by simpa using e) i b hnk (by simpa using (j e).1) (by simpa using (j e).2) hin h
 |false=>exact absurd (by unfold tC;rw[if_neg m,if_neg g,if_neg o,if_neg j,if_neg (by rw[hin];simp)]) h0
variable{B q:Nat}{y:Rx}
section
variable{w w' w2:World}{y' y2:Rx}
theorem LB.S0(h:LB w B q y y' w'){g:Nat}(hge:w.heap.size<=g)(hf:¬cD q y' g)(hA:qD w' (fun k=>k=g))(j:Nat)(vs:List Value):LB w B q y y' (w'.setCells g j vs).drew:=by
 have b:=(gA.setCells (S:=fun i=>i=g) (a:=w') (g:=g) (gA.refl _ _) (fun _=>rfl) j vs).drew;exact⟨h.rf.but b (fun k c e=>hf (e▸c)) hA,h.but.trans b (fun i d e=>by omega),h.ft⟩
theorem LB.dQ{r:Rn}(h:LB w B q y y' w')(k:JL w' B q y' y2 r w2)(hg:∀g,r.vk.val.ownBlock=some g->cD q y' g\/w.heap.size<=g):LB w B q y y2 w2:=by
 have b:=h.but.size;refine⟨k.rf,h.but.trans k.but (fun _ _ h=>h),fun i a=>?_⟩;rcases k.ft i a with e|e|e
 ·exact h.ft i e
 ·rcases hg i e with e|e
  ·exact h.ft i e
  ·exact .inr e
 ·exact .inr cA
theorem bB.eJ{g:Nat}{r:Rc}{A:jA}{n c:Nat}{S:Nat->Prop}(h:bB w g r A n c)(hb:gA S w w')(hS:¬S g):bB w' g r A n c:=(hb.block g h.lt hS).trans h
theorem LA.eJ{g:Nat}{nd:Nd}{A:jA}{n c:Nat}{A2:jA}{n2 k2:Nat}{S:Nat->Prop}(h:LA w g nd A n c A2 n2 k2)(hb:gA S w w')(hS:¬S g):LA w' g nd A n c A2 n2 k2:=(hb.block g h.lt hS).trans h
theorem Rf.VQ(h:Rf w B q y){b o n c:Nat}(hv:y.v= .slice (some (dA b o)) n c):cD q y b:=by
 rcases h.own.form with⟨e,_⟩|⟨g,c',cur,e,e2,_⟩
 ·rw[hv] at e;cases e
 ·rw[hv] at e;injection e with e1;injection e1 with e1;injection e1 with e1;subst e1;exact .inr (.inl e2)
end
def vD(i b:Int)(l:List Int):List Int:=l.flatMap fun c=>if c=b then[i,c] else[c]
theorem GY{i b:Int}{l:List Int}{j:Nat}(hj:j<l.length):vD i b (l.take (j+1))=vD i b (l.take j)++if l[j]=b then[i,l[j]] else[l[j]]:=by
 unfold vD;rw[List.take_succ_eq_append_getElem hj,List.flatMap_append];simp
theorem YT(i b:Int)(l:List Int):(vD i b l).length<=2*l.length:=by
 unfold vD
 induction l with
 |nil=>simp
 |cons a l ih=>
  rw[List.flatMap_cons,List.length_append,List.length_cons];have e:∀x:List Int,(x=[i,a]\/x=[a])->x.length<=2:=fun x hx=>by rcases hx with rfl|rfl<;>simp
  have:=e (if a=b then[i,a] else[a]) (by split<;>simp);omega
theorem lh{i b:Int}{l:List Int}(h:b∉l):vD i b l=l:=by
 unfold vD
 induction l with
 |nil=>rfl
 |cons a l ih=>
  rw[List.mem_cons,not_or] at h;rw[List.flatMap_cons,if_neg (Ne.symm h.1),ih h.2];rfl
theorem mh{i b:Int}{l:List Int}(h:b≠0):vD i b l=ED i b l:=by unfold ED;rw[if_neg h];rfl
theorem Dk{i:Int}{l:List Int}(h:(0:Int)∉l):vD i 0 l++[i]=ED i 0 l:=by rw[lh h];unfold ED;rw[if_pos rfl]
theorem ZO{d:D}(h:WF d)(i p:Int):(xA (QA d.l i) p).length<=1000/\(0:Int)∉xA (QA d.l i) p:=by
 have b:=EI (i:=i) h.tr;refine⟨?_,fun e=>?_⟩
 ·have a:=kJ (xA (QA d.l i) p) (WA (QA d.l i)) (b.IC p) (fun c f=>vG.1 (b.lB p c f).2.1);rw[hH] at a;have:=h.xG;simp only[WA,List.length_map] at a;omega
 ·have a:=(b.lB p 0 e).2.1;rw[eG,h.Ac] at a;cases a
variable{B q:Nat}{y:Rx}
theorem zo(r:Rc)(A:jA)(n c:Nat)(w:World)(ha:EB y.l)(hl:y.rs.length<=1000)(hi:lA y.l r.id=true)(hp:lA y.l r.par=true)(hq:(r.rA != 0)=false)(h1:(r.id==1)=false)(hwf:WF y.d)(hnk:wB (MA y.l r.par)=false)(hin:inside y.l r.par r.id=false)(hb0:r.rA=0)(h:Rf w B q y):fA 90 #[iA q,.agg (JA r A n c)] w (gC w B q y 0 {y.d with l:=OC y.l r.id r.par r.rA}):=by
 have B1:Hid (eA w (w.alloc (.cells (JA r A n c) 87))):=Zh (Zb _ _);have N1:=Zh (bB.new w r A n c);have H0:=Zh h;have HA:=Zh ha;obtain⟨ki,ch,bo,_⟩:=FC ha hi;have bp:=Zh bo;have bq:=Zh hb0;clear h hb0;go_enter func90,ntmps90;go_upto_region 1 with fail;generalize w.alloc (.cells (JA r A n c) 87)=W at B1 N1|-;have H:=Zh (H0.below B1);have b1:=N1.c1;have b2:=N1.c2;have b3:=N1.c3;obtain⟨k,hk,hy,_⟩:=FC HA hp;obtain⟨b,o,cl,A1,nn,ca,A2,n2,ad,hv,a8,hb,d0,L,I,E⟩:=H.bG hk;have da:=Zh I;have db:=Zh E;have HY:=Zh hy;obtain⟨nl,N⟩:=qA y.rs.length;have dc:=Zh N;have dd:k<nl:=cA;have de:nl<=1000:=cA;rw[N] at d0 a8;obtain⟨m,hm⟩:=qA (y.rs[k].nd);have HM:=Zh hm;rw[hm] at L;have l0:=L.c0;have l1:=L.c1;have l2:=L.c2;have l3:=L.c3;have l4:=L.c4;have l5:=L.c5;have l6:=L.c6;have l7:=L.c7;have d5:=FA H.mA;have br:∀g,(Value.slice A2 n2 ad).ownBlock=some g->cD q y g:=fun g hg=> .inr (.inr ⟨_,List.getElem_mem hk,by rw[E];exact hg⟩)
 have df:=Zh br;have hR:=H.nodes _ (List.getElem_mem hk);rw[show y.rs[k]=(⟨⟨A1,nn,ca⟩,⟨A2,n2,ad⟩,m⟩:Rn) by cases e:y.rs[k];rw[e] at I E hm;cases I;cases E;cases hm;rfl] at hR;have HR:=Zh hR;clear hv I E N hm L br hR;have bs:Hid (wB m.tag=false):=Zh (by rw[<-HM.out,<-(IG HA.out hk HY.out).1];exact hnk);clear hnk;have ci:=Zh hp;have bt:=Zh hi;have b9:=Zh hwf;clear hwf;go_wp2_with fail;refine zA (rB r.id W HA hl ch bp H) ?_;go_wp2_with fail;refine(rB r.par W HA hl hk HY H).mono ?_;rintro e w' ⟨rfl,rfl⟩;go_upto_region 5 with fail;go_cut [5] (fun s5 wx=>s5 = iA W.heap.size/\Hid (eA W wx)/\Hid (LA wx W.heap.size m A1 nn ca A2 n2 ad))
 case first=>
  go_region_held3 (fun w'=>w'.cell? (dA q 0)=some (.slice (some (dA b o)) nl cl)/\w'.cell? ⟨b,o+k*8,none⟩=some (aA m.id)/\w'.cell? ⟨b,o+k*8+1,none⟩=some (aA m.par)/\w'.cell? ⟨b,o+k*8+2,none⟩=some (bA m.tag)/\w'.cell? ⟨b,o+k*8+3,none⟩=some (bA m.txt)/\w'.cell? ⟨b,o+k*8+4,none⟩=some (bA m.key)/\w'.cell? ⟨b,o+k*8+5,none⟩=some (.slice A1 nn ca)/\w'.cell? ⟨b,o+k*8+6,none⟩=some (.slice A2 n2 ad)/\w'.cell? ⟨b,o+k*8+7,none⟩=some (aA m.note)/\w'.cell? ⟨w.heap.size,2,none⟩=some (aA r.par)) (go_keep) ((first
   |(go_at_call 26;refine zA (rB r.par _ HA hl hk HY (by exact H.drewN _)) ?_)
   |(go_at_call 26;refine zA (rB r.par _ HA hl hk HY (by exact(H.alloc _).drewN _)) ?_)
   |fail))
  all_goals
   go_wp2_with fail;go_meet;exact⟨rfl,Zh ((Zb _ _).drew),Zh (heap_drew (LA.new W m A1 nn ca A2 n2 ad))⟩
 case rest=>
  obtain⟨rfl,B2,N2⟩:=hcut;obtain⟨w2,rfl⟩:∃w2,w2=wc:=⟨_,rfl⟩;clear l0 l1 l2 l3 l4 l5 l6 l7 d0 b1 b2 b3;have a2:=N2.c2;have ba:=Zh (B1.trans (B2.mono B1.size));have H2:=Zh (H0.below ba);have R2:=Zh (N1.below B2 N1.lt);have cj:W.heap.size<w2.heap.size:=N2.lt;go_wp2_with fail;refine(P1.gI m.tag w2).mono ?_;rintro e w' ⟨rfl,rfl⟩;have tE:m.tag.toList.isEmpty=false:=by
   cases e:m.tag.toList.isEmpty with
   |false=>rfl
   |true=>
    have:=bs.out;unfold wB at this;rw[List.isEmpty_iff] at e;simp[e] at this
  have hv:P1.fC m.tag.data.toList=false:=by
   cases e:P1.fC m.tag.data.toList with
   |false=>rfl
   |true=>
    have:=bs.out;unfold wB at this;simp[e] at this
  rw[hv];have c1:=R2.c1;have c2:=R2.c2;have c3:=R2.c3;go_wp2_with fail;go_quiet (fail);go_wp2_with fail;have BN:=Zh (PA ba nq);refine(fM r.par r.id _ HA hl (by exact H2.drewN nq)).mono ?_;rintro e w5 ⟨rfl,b5⟩;have B5:=Zh (BN.trans (b5.mono (by exact ba.size)));have N5:Hid (LA w5 W.heap.size m A1 nn ca A2 n2 ad):=Zh (LA.below (w:=w2.drewN nq) N2 b5 cj);have R5:Hid (bB w5 w.heap.size r A n c):=Zh (bB.below (w:=w2.drewN nq) R2 b5 R2.lt);have dg:w2.heap.size<=w5.heap.size:=b5.size;have dh:w.heap.size<W.heap.size:=N1.lt;rw[hin];clear b5 c1 c2 c3 a2;have e1:=R5.c1;go_wp2_with fail;refine(zS r.id w5 b9 bt (H0.below B5)).mono ?_;rintro e w6 ⟨rfl,v6,ck,r6,l6⟩;obtain⟨M,ax⟩:∃M:Rx,M = {y with v:=v6,rs:=ck}:=⟨_,rfl⟩;have L6:Hid (M.l=QA y.l r.id):=Zh (by rw[ax];exact l6);have F6:Hid (M.n=y.n/\M.R=y.R/\M.foc=y.foc):=Zh (by rw[ax];exact⟨rfl,rfl,rfl⟩);rw[<-ax] at r6;have bb:Hid (¬cD q M W.heap.size):=Zh (fun hf=>by
   rcases r6.ft _ hf with e|e
   ·have:=H0.lt e;omega
   ·omega)
  have di:Hid (¬cD q M w.heap.size):=Zh (fun hf=>by
   rcases r6.ft _ hf with e|e
   ·have:=H0.lt e;omega
   ·omega)
  have cm:q<w.heap.size:=FA H0.mA;have O:=Zh (N5.eJ r6.but cA);have R6:=Zh (R5.eJ r6.but cA);have D6:=Zh ((LB.sC H0 B5).trans r6);have a9:Hid (EB M.l):=Zh (by rw[L6.out];exact DI HA (hH _ _));have ay:M.rs.length<=1000:=by
   have:=KI (hH y.l r.id);rw[<-L6.out,MD,MD] at this;omega
  obtain⟨k6,R,al,_⟩:=FC a9 (i:=r.par) (by rw[L6.out,eG];exact ci);have bc:=Zh al;have bu:Hid (xA (QA y.l r.id) r.par=M.rs[k6].nd.kids):=Zh (by rw[<-L6.out];exact(IG a9 R al).2.2);have cn:M.rs[k6].nd.kids.length<=1000:=(by have:=(ZO b9 r.id r.par).1;rw[show y.d.l=y.l from rfl,bu.out] at this;exact this);have bv:Hid ((0:Int)∉M.rs[k6].nd.kids):=Zh (by have:=(ZO b9 r.id r.par).2;rw[show y.d.l=y.l from rfl,bu.out] at this;exact this);clear r6 l6 ax al e1;obtain⟨b,o,cl,Ap,np,F,P,n2p,G,hv,a8,hb,d0,L,I,E⟩:=D6.rf.bG R;have bw:=Zh (D6.rf.VQ hv);have bx:=Zh I;have bz:=Zh E;obtain⟨nl,N⟩:=qA M.rs.length;have d6:k6<nl:=cA;have d7:nl<=1000:=cA;rw[N] at d0 a8;obtain⟨d,hm⟩:=qA (M.rs[k6].nd);have az:=Zh hm;rw[hm] at L;have l0:=L.c0;have l1:=L.c1;have l2:=L.c2;have l3:=L.c3;have l4:=L.c4;have l5:=L.c5;have l6:=L.c6;have l7:=L.c7;rw[hm] at cn bv;clear hv I E N hm L;have c0:∀(V:World) (i j:Nat) (v:Value),(V.setCell ⟨W.heap.size,i,none⟩ v).cell? (dA q j)=V.cell? (dA q j):=fun V i j v=>World.cell?_setCell_far _ _ _ _ (by show W.heap.size≠q;omega)
  have b6:∀(V:World) (i j:Nat) (v:Value),(V.setCell ⟨W.heap.size,i,none⟩ v).cell? (dA b j)=V.cell? (dA b j):=fun V i j v=>World.cell?_setCell_far _ _ _ _ (by show W.heap.size≠b;rintro rfl;exact bb bw)
  have b7:∀(V:World) (i j:Nat) (v:Value),(V.setCell ⟨W.heap.size,i,none⟩ v).cell? ⟨w.heap.size,j,none⟩=V.cell? ⟨w.heap.size,j,none⟩:=fun V i j v=>World.cell?_setCell_far _ _ _ _ (by show W.heap.size≠w.heap.size;omega)
  have p2:=R6.c2;have u0:=O.c0;have z0:=O.frozen 0;have u1:=O.c1;have z1:=O.frozen 1;have u2:=O.c2;have z2:=O.frozen 2;have u3:=O.c3;have z3:=O.frozen 3;have u4:=O.c4;have z4:=O.frozen 4;have u5:=O.c5;have z5:=O.frozen 5;have u6:=O.c6;have z6:=O.frozen 6;have u7:=O.c7;have z7:=O.frozen 7;go_upto_region 15 with fail;go_region_held3 (fun w'=>w'.cell? (dA q 0)=some (.slice (some (dA b o)) nl cl)/\w'.cell? ⟨b,o+k6*8,none⟩=some (aA d.id)/\w'.cell? ⟨b,o+k6*8+1,none⟩=some (aA d.par)/\w'.cell? ⟨b,o+k6*8+2,none⟩=some (bA d.tag)/\w'.cell? ⟨b,o+k6*8+3,none⟩=some (bA d.txt)/\w'.cell? ⟨b,o+k6*8+4,none⟩=some (bA d.key)/\w'.cell? ⟨b,o+k6*8+5,none⟩=some (.slice Ap np F)/\w'.cell? ⟨b,o+k6*8+6,none⟩=some (.slice P n2p G)/\w'.cell? ⟨b,o+k6*8+7,none⟩=some (aA d.note)/\w'.cell? ⟨w.heap.size,2,none⟩=some (aA r.par)) (first|go_keep|(simp only[World.cell?_drew,c0,b6,b7];exact⟨d0,l0,l1,l2,l3,l4,l5,l6,l7,p2⟩)) ((first
   |(go_at_call 26;refine zA (rB r.par _ a9 ay R bc (by exact D6.rf.drewN _)) ?_)
   |(go_at_call 26;refine(rB r.par _ a9 ay R bc (by exact(D6.rf.alloc _).drewN _)).mono ?_;rintro e K ⟨rfl,rfl⟩)
   |fail))
  have N7:Hid (LA (((((((((w6.setCell ⟨W.heap.size,0,none⟩ (aA d.id)).setCell ⟨W.heap.size,1,none⟩ (aA d.par)).setCell ⟨W.heap.size,2,none⟩ (bA d.tag)).setCell ⟨W.heap.size,3,none⟩ (bA d.txt)).setCell ⟨W.heap.size,4,none⟩ (bA d.key)).setCell ⟨W.heap.size,5,none⟩ (.slice Ap np F)).setCell ⟨W.heap.size,6,none⟩ (.slice P n2p G)).setCell ⟨W.heap.size,7,none⟩ (aA d.note)).drew) W.heap.size d Ap np F P n2p G):=Zh (heap_drew (O.uV (nd':=d)));have D7:Hid (LB w B q y M (((((((((w6.setCell ⟨W.heap.size,0,none⟩ (aA d.id)).setCell ⟨W.heap.size,1,none⟩ (aA d.par)).setCell ⟨W.heap.size,2,none⟩ (bA d.tag)).setCell ⟨W.heap.size,3,none⟩ (bA d.txt)).setCell ⟨W.heap.size,4,none⟩ (bA d.key)).setCell ⟨W.heap.size,5,none⟩ (.slice Ap np F)).setCell ⟨W.heap.size,6,none⟩ (.slice P n2p G)).setCell ⟨W.heap.size,7,none⟩ (aA d.note)).drew)):=Zh (D6.S0 (g:=W.heap.size) cA bb O.eD 0 [aA d.id,aA d.par,bA d.tag,bA d.txt,bA d.key,.slice Ap np F,.slice P n2p G,aA d.note]);have R7:Hid (bB (((((((((w6.setCell ⟨W.heap.size,0,none⟩ (aA d.id)).setCell ⟨W.heap.size,1,none⟩ (aA d.par)).setCell ⟨W.heap.size,2,none⟩ (bA d.tag)).setCell ⟨W.heap.size,3,none⟩ (bA d.txt)).setCell ⟨W.heap.size,4,none⟩ (bA d.key)).setCell ⟨W.heap.size,5,none⟩ (.slice Ap np F)).setCell ⟨W.heap.size,6,none⟩ (.slice P n2p G)).setCell ⟨W.heap.size,7,none⟩ (aA d.note)).drew) w.heap.size r A n c):=Zh (R6.eJ (S:=fun i=>i=W.heap.size) (gA.setCells (S:=fun i=>i=W.heap.size) (a:=w6) (g:=W.heap.size) (gA.refl _ _) (fun _=>rfl) 0 [aA d.id,aA d.par,bA d.tag,bA d.txt,bA d.key,.slice Ap np F,.slice P n2p G,aA d.note]).drew cA);generalize ((((((((w6.setCell ⟨W.heap.size,0,none⟩ (aA d.id)).setCell ⟨W.heap.size,1,none⟩ (aA d.par)).setCell ⟨W.heap.size,2,none⟩ (bA d.tag)).setCell ⟨W.heap.size,3,none⟩ (bA d.txt)).setCell ⟨W.heap.size,4,none⟩ (bA d.key)).setCell ⟨W.heap.size,5,none⟩ (.slice Ap np F)).setCell ⟨W.heap.size,6,none⟩ (.slice P n2p G)).setCell ⟨W.heap.size,7,none⟩ (aA d.note)).drew=u at N7 D7 R7|-;clear c0 b6 b7 d0 l0 l1 l2 l3 l4 l5 l6 l7 p2 u0 u1 u2 u3 u4 u5 u6 u7 z0 z1 z2 z3 z4 z5 z6 z7 a8 hb O R6 D6;have c4:kI.Own u B (.slice P n2p G) d.kids:=(by have:=(D7.rf.nodes _ (List.getElem_mem R)).kids;rw[bz.out,az.out] at this;exact this);obtain⟨g1,g2,g3,g4,g5⟩:=qG c4 rfl;have HK:=Zh g5;have HN:=Zh g1;have d8:n2p<=1000:=cA;have bd:W.heap.size<u.heap.size:=N7.lt;have b8:w.heap.size<u.heap.size:=cA;clear c4 g1 g2 g3 g4 g5;go_wp2_with fail;go_loopw [8,9] (fun s8 s9 wr=>∃j:Nat,j<=n2p/\s9 = aA j/\Hid (kI.Own wr u.heap.size s8 (vD r.id r.rA (d.kids.take j)))/\Hid (eA u wr)) (fun _ s9 _=>n2p-(intOf s9).toNat)
  case atStart=>exact⟨0,by omega,rfl,Zh (by simpa[vD] using Kind.Own.nil kI u u.heap.size),Zh Ze⟩
  case round=>
   obtain⟨j,hj,rfl,HO,HW⟩:=hrel;obtain⟨A8,n8,c8,rfl,h8,_⟩:=HO.slice;have be:=HW.size;have N8:=Zh (N7.below HW bd);have R8:=Zh (R7.below HW b8);have x6:=N8.c6;have x1:=R8.c1;have x3:=R8.c3;have HL:Hid ((vD r.id r.rA (d.kids.take j)).length<=2000):=Zh (by have:=YT r.id r.rA (d.kids.take j);rw[List.length_take] at this;omega);clear h8;by_cases co:j<n2p
   ·have c5:j<d.kids.length:=(uA HN.out);obtain⟨gb,go,rfl,am,bf⟩:=mD HK c5;have hc:wr.cell? ⟨gb,go+j,none⟩=some (aA d.kids[j]):=(HW.cell (p:=⟨gb,go+j,none⟩) am).trans bf;have c6:=Zh (GY (i:=r.id) (b:=r.rA) c5);have cp:=Zh am;have bg:=Zh bf;clear am bf;by_cases he:d.kids[j]=r.rA
    ·have bh:(d.kids[j]==r.rA)=true:=(by simpa using he);have an:Hid (vD r.id r.rA (d.kids.take (j+1))=(vD r.id r.rA (d.kids.take j)++[r.id])++[d.kids[j]]):=Zh (by rw[c6.out,if_pos he,List.append_assoc];rfl);clear he;generalize d.kids[j]=kd at hc bh an bg;go_wp2_with fail;go_quiet (fail);have aa:=Zh (HO.drewN nq);have BQ:=Zh (PA HW nq);have ao:(wr.drewN nq).cell? ⟨W.heap.size,6,none⟩=some (.slice (some (dA gb go)) n2p G):=x6;have c7:(wr.drewN nq).cell? ⟨w.heap.size,1,none⟩=some (aA r.id):=x1;have yc:(wr.drewN nq).cell? ⟨gb,go+j,none⟩=some (aA kd):=hc;have T:u.heap.size<=(wr.drewN nq).heap.size:=be;clear x6 x1 x3 hc N8 R8;generalize wr.drewN nq=wq at aa BQ ao c7 yc T|-;go_upto_region 22 with(at_builtin;refine kI.iC rfl _ _ rfl (v:=.slice A8 n8 c8) (l:=vD r.id r.rA (d.kids.take j)) (m:=[r.id]) (B:=u.heap.size) rfl (aa.alloc _) rfl rfl RB (Kind.pA.lit (heap_alloc_new _ _) rfl) (by have:=HL.out;simp;omega) AA ?_;intro v' K f s ab;obtain⟨Y,Z,c9,rfl,_,_,_,_,_⟩:=f.slice);have ae:=Zh f;have J:Hid (eA u K):=Zh ((BQ.alloc T _).grown s AA (fun k hk=>(aa.lt hk).1));have N8:=Zh (N7.below J bd);have z6:=N8.c6;have cq:K.cell? ⟨gb,go+j,none⟩=some (aA kd):=(J.cell (p:=⟨gb,go+j,none⟩) cp).trans bg;clear f s ab ao c7 yc;have cb:=J.size;go_wp2_with (at_builtin;refine kI.iC rfl _ _ rfl (v:=.slice Y Z c9) (l:=vD r.id r.rA (d.kids.take j)++[r.id]) (m:=[kd]) (B:=u.heap.size) rfl (ae.alloc _) rfl rfl RB (Kind.pA.lit (heap_alloc_new _ _) rfl) (by have:=HL.out;simp;omega) AA ?_;intro v' w4 f s ab;obtain⟨cr,cs,ct,rfl,_,_,_,_,_⟩:=f.slice);have bi:Hid (kI.Own w4 u.heap.size (.slice cr cs ct) (vD r.id r.rA (d.kids.take (j+1)))):=Zh (by rw[an.out];exact f);have bj:Hid (eA u w4):=Zh ((J.alloc cb _).grown s AA (fun k hk=>(ae.lt hk).1));clear f s ab z6 cq;go_wp2_with fail;go_roundw
     case rel=>exact⟨j+1,by omega,by go_num,bi,bj⟩
     case measure=>simp[intOf];omega
    ·have bh:(d.kids[j]==r.rA)=false:=(by simpa using he);have an:Hid (vD r.id r.rA (d.kids.take (j+1))=vD r.id r.rA (d.kids.take j)++[d.kids[j]]):=Zh (by rw[c6.out,if_neg he]);clear he;generalize d.kids[j]=kd at hc bh an bg;go_wp2_with fail;go_quiet (fail);have aa:=Zh (HO.drewN nq);have BQ:=Zh (PA HW nq);have ao:(wr.drewN nq).cell? ⟨W.heap.size,6,none⟩=some (.slice (some (dA gb go)) n2p G):=x6;have yc:(wr.drewN nq).cell? ⟨gb,go+j,none⟩=some (aA kd):=hc;have T:u.heap.size<=(wr.drewN nq).heap.size:=be;clear x6 x1 x3 hc N8 R8;generalize wr.drewN nq=wq at aa BQ ao yc T|-;go_wp2_with (at_builtin;refine kI.iC rfl _ _ rfl (v:=.slice A8 n8 c8) (l:=vD r.id r.rA (d.kids.take j)) (m:=[kd]) (B:=u.heap.size) rfl (aa.alloc _) rfl rfl RB (Kind.pA.lit (heap_alloc_new _ _) rfl) (by have:=HL.out;simp;omega) AA ?_;intro v' K f s ab;obtain⟨Y,Z,c9,rfl,_,_,_,_,_⟩:=f.slice);have bi:Hid (kI.Own K u.heap.size (.slice Y Z c9) (vD r.id r.rA (d.kids.take (j+1)))):=Zh (by rw[an.out];exact f);have bj:Hid (eA u K):=Zh ((BQ.alloc T _).grown s AA (fun k hk=>(aa.lt hk).1));clear f s ab ao yc;go_wp2_with fail;go_roundw
     case rel=>exact⟨j+1,by omega,by go_num,bi,bj⟩
     case measure=>simp[intOf];omega
   ·obtain rfl:j=n2p:=cA
    have bk:Hid (kI.Own wr u.heap.size (.slice A8 n8 c8) (vD r.id r.rA d.kids)):=Zh (by have:=HO.out;rw[<-HN.out,List.take_length] at this;exact this);have cu:Hid (vD r.id r.rA d.kids++[r.id]=ED r.id r.rA d.kids):=Zh (by rw[bq.out];exact Dk bv);have cv:Hid ((vD r.id r.rA d.kids).length<=2000):=Zh (uA (YT r.id r.rA d.kids));have dj:(r.rA==0)=true:=(by have:=bq.out;simpa using this);clear co;go_upto_region 25 with(at_builtin;refine kI.iC rfl _ _ rfl (v:=.slice A8 n8 c8) (l:=vD r.id r.rA d.kids) (m:=[r.id]) (B:=u.heap.size) rfl (bk.alloc _) rfl rfl RB (Kind.pA.lit (heap_alloc_new _ _) rfl) (by have:=cv.out;simp;omega) AA ?_;intro v' K f s ab;obtain⟨Y,Z,c9,rfl,_,_,_,_,_⟩:=f.slice);have ae:Hid (kI.Own K u.heap.size (.slice Y Z c9) (ED r.id r.rA d.kids)):=Zh (by rw[<-cu.out];exact f);have J:Hid (eA u K):=Zh ((HW.alloc be _).grown s AA (fun k hk=>(bk.lt hk).1));clear f s ab x6 x1 x3 N8 R8;have N8:=Zh (N7.below J bd);have R8:=Zh (R7.below J b8);have f6:=N8.frozen 6;have x6:=N8.c6;have cb:=J.size;have N9:Hid (LA (K.setCell ⟨W.heap.size,6,none⟩ (.slice Y Z c9)) W.heap.size (ZC (ED r.id r.rA) d) Ap np F Y Z c9):=Zh (heap_set N8 6 (.slice Y Z c9));have R9:Hid (bB (K.setCell ⟨W.heap.size,6,none⟩ (.slice Y Z c9)) w.heap.size r A n c):=Zh ((Below.heap_setCell K ⟨W.heap.size,6,none⟩ (.slice Y Z c9) w.heap.size (by simp only;omega)).trans R8);have O9:Hid (kI.Own (K.setCell ⟨W.heap.size,6,none⟩ (.slice Y Z c9)) u.heap.size (.slice Y Z c9) (ED r.id r.rA d.kids)):=Zh (ae.sB fun g hg=>Below.heap_setCell _ _ _ _ (by have:=(ae.lt hg).1;simp only[ne_eq];omega));have D9:Hid (LB w B q y M (K.setCell ⟨W.heap.size,6,none⟩ (.slice Y Z c9))):=Zh ((D7.below J).iL cA bb N8.eD 6 _);go_upto_region 26 with fail;generalize K.setCell ⟨W.heap.size,6,none⟩ (.slice Y Z c9)=W9 at N9 R9 O9 D9|-;clear N8 R8 x6 f6 ae J bk HW;have a0:=N9.c0;have a1:=N9.c1;have a2:=N9.c2;have a3:=N9.c3;have a4:=N9.c4;have a5:=N9.c5;have a6:=N9.c6;have a7:=N9.c7;go_wp2_with fail;refine(iK k6 (ZC (ED r.id r.rA) d) Ap np F Y Z c9 W9 a9 ay R (by rw[az.out];rfl) ⟨by
     have:=(D9.rf.nodes _ (List.getElem_mem R)).mB;rw[bx.out,az.out] at this;exact this,O9.dE (uA H0.base)⟩ D9.rf).mono ?_
    rintro e x ⟨rfl,cw,b0⟩;obtain⟨t,U⟩:∃t:Rx,t = {M with v:=cw,rs:=M.rs.set k6 ⟨⟨Ap,np,F⟩,⟨Y,Z,c9⟩,ZC (ED r.id r.rA) d⟩}:=⟨_,rfl⟩;rw[<-U] at b0;have bl:Hid (t.l=iB M.l r.par (ZC (ED r.id r.rA))):=Zh (by rw[U];exact WN a9 R bc (ZC (ED r.id r.rA)) (by rw[az.out]));have bm:Hid (t.n=y.n/\t.R=y.R/\t.foc=y.foc):=Zh (by rw[U];exact F6);have af:Hid (LB w B q y t x):=Zh (D9.dQ b0 (fun g hg=> .inr (uA ((O9.lt hg).1))));have b4:Hid (bB x w.heap.size r A n c):=Zh (R9.eJ b0.but cA);have X:Hid (EB t.l):=Zh (by rw[bl.out];exact DI a9 (OQ _ _ _));have ap:t.rs.length<=1000:=(by rw[U];simpa using ay);obtain⟨z,C,aq,_⟩:=FC X (i:=r.id) (by rw[bl.out,YM,L6.out,eG];exact bt);have ar:=Zh aq;clear b0 U aq a0 a1 a2 a3 a4 a5 a6 a7 D9 R9 N9;obtain⟨b,o,cl,Ai,ni,ag,ah,ai,aj,hv,a8,hb,d0,L,I,E⟩:=af.rf.bG C;have cx:=Zh (af.rf.VQ hv);have bn:=Zh I;have au:=Zh E;obtain⟨nl,N⟩:=qA t.rs.length;have cy:z<nl:=cA;have cz:nl<=1000:=cA;rw[N] at d0 a8;obtain⟨mi,hm⟩:=qA (t.rs[z].nd);have ac:=Zh hm;rw[hm] at L;have l0:=L.c0;have l1:=L.c1;have l2:=L.c2;have l3:=L.c3;have l4:=L.c4;have l5:=L.c5;have l6:=L.c6;have l7:=L.c7;clear hv I E N hm L;have p1:=b4.c1;go_upto_region 27 with fail;go_cut [10] (fun d1 wx=>d1 = iA x.heap.size/\Hid (eA x wx)/\Hid (LA wx x.heap.size mi Ai ni ag ah ai aj))
    case first=>
     go_region_held3 (fun w'=>w'.cell? (dA q 0)=some (.slice (some (dA b o)) nl cl)/\w'.cell? ⟨b,o+z*8,none⟩=some (aA mi.id)/\w'.cell? ⟨b,o+z*8+1,none⟩=some (aA mi.par)/\w'.cell? ⟨b,o+z*8+2,none⟩=some (bA mi.tag)/\w'.cell? ⟨b,o+z*8+3,none⟩=some (bA mi.txt)/\w'.cell? ⟨b,o+z*8+4,none⟩=some (bA mi.key)/\w'.cell? ⟨b,o+z*8+5,none⟩=some (.slice Ai ni ag)/\w'.cell? ⟨b,o+z*8+6,none⟩=some (.slice ah ai aj)/\w'.cell? ⟨b,o+z*8+7,none⟩=some (aA mi.note)/\w'.cell? ⟨w.heap.size,1,none⟩=some (aA r.id)) (go_keep) ((first
      |(go_at_call 26;refine zA (rB r.id _ X ap C ar (by exact af.rf.drewN _)) ?_)
      |(go_at_call 26;refine zA (rB r.id _ X ap C ar (by exact(af.rf.alloc _).drewN _)) ?_)
      |fail))
     all_goals
      go_wp2_with fail;go_meet;exact⟨rfl,Zh ((Zb _ _).drew),Zh (heap_drew (LA.new x mi Ai ni ag ah ai aj))⟩
    case rest=>
     obtain⟨rfl,cc,ak⟩:=hcut;obtain⟨av,rfl⟩:∃av,av=wc:=⟨_,rfl⟩;have d9:x.heap.size<av.heap.size:=ak.lt;have cd:=Zh (af.below cc);have ce:=Zh (b4.below cc b4.lt);have dk:w.heap.size<x.heap.size:=b4.lt;clear d0 l0 l1 l2 l3 l4 l5 l6 l7 a8 hb p1;have p2:=ce.c2;have q1:=ak.c1;have f1:=ak.frozen 1;have cf:Hid (¬cD q t x.heap.size):=Zh (fun hf=>by have:=af.rf.lt hf;omega);have aw:=Zh (cd.iL cA cf ak.eD 1 (aA r.par));have Q:Hid (LA (av.setCell ⟨x.heap.size,1,none⟩ (aA r.par)) x.heap.size (rD r.par mi) Ai ni ag ah ai aj):=Zh (heap_set ak 1 (aA r.par));go_upto_region 29 with fail;generalize av.setCell ⟨x.heap.size,1,none⟩ (aA r.par)=d2 at Q aw|-;clear p2 q1 f1 cd ce ak;have a0:=Q.c0;have a1:=Q.c1;have a2:=Q.c2;have a3:=Q.c3;have a4:=Q.c4;have a5:=Q.c5;have a6:=Q.c6;have a7:=Q.c7;go_wp2_with fail;refine(iK z (rD r.par mi) Ai ni ag ah ai aj d2 X ap C (by rw[ac.out];rfl) ⟨by
      have:=(aw.rf.nodes _ (List.getElem_mem C)).mB;rw[bn.out,ac.out] at this;exact this,by
      have:=(aw.rf.nodes _ (List.getElem_mem C)).kids;rw[au.out,ac.out] at this;exact this⟩ aw.rf).mono ?_
     rintro e dl ⟨rfl,dm,cg⟩;have d3:=Zh (aw.dQ cg (fun g hg=> .inl (.inr (.inr ⟨_,List.getElem_mem C,by rw[au.out];exact hg⟩))));have d4:Hid ((t.rs.set z ⟨⟨Ai,ni,ag⟩,⟨ah,ai,aj⟩,rD r.par mi⟩).map (·.nd)=OC y.l r.id r.par r.rA):=Zh (by rw[WN X.out C ar.out (rD r.par) (by rw[ac.out]),bl.out,L6.out];rfl);clear cg a0 a1 a2 a3 a4 a5 a6 a7;go_wp2_with fail;go_ret;refine⟨rfl,_,d3,?_⟩;show D.mk ((t.rs.set z _).map (·.nd)) t.n t.R t.foc=D.mk _ _ _ _;rw[d4.out,bm.out.1,bm.out.2.1,bm.out.2.2];rfl
variable{B q:Nat}{y:Rx}
def cG(s:List Int)(l:List Rn):List Rn:=l.filter fun r=>!decide (r.nd.id∈s)
theorem Bo(s:List Int)(l:List Rn):(cG s l).map (·.nd)=aH s (l.map (·.nd)):=by
 unfold cG aH;rw[List.filter_map];rfl
theorem nh{s:List Int}{l:List Rn}{j:Nat}(hj:j<l.length):cG s (l.take (j+1))=if l[j].nd.id∈s then cG s (l.take j) else cG s (l.take j)++[l[j]]:=by
 unfold cG;rw[List.take_succ_eq_append_getElem hj,List.filter_append];by_cases e:l[j].nd.id∈s<;>simp[e]
theorem Ek{s:List Int}{l:List Rn}{r:Rn}(h:r∈cG s l):r∈l:=(List.mem_filter.1 h).1
theorem Fk(s:List Int)(l:List Rn):(cG s l).length<=l.length:=List.length_filter_le _ _
theorem Wc{l:List Int}{x:Int}{j:Nat}(hj:j<l.length):decide (x∈l.take (j+1))=(decide (x∈l.take j) || l[j]==x):=by
 rw[List.take_succ_eq_append_getElem hj,Bool.eq_iff_iff,Bool.or_eq_true,decide_eq_true_eq,decide_eq_true_eq,List.mem_append,List.mem_singleton,beq_iff_eq];exact or_congr Iff.rfl eq_comm
theorem LB.rq{w w':World}{y1:Rx}(h:LB w B q y y1 w'){C:Nat}{v:Value}{rs':List Rn}(hC:w.heap.size<=C)(hq:q<w.heap.size)(hB:B<=C)(ho:kN.Own w' C v (rs'.map Rn.rn))(hs:∀r∈rs',r∈y1.rs):LB w B q y {y1 with v:=v,rs:=rs'} (w'.setCell (dA q 0) v):=by
 have a:gA (fun k=>k=q) w' (w'.setCell (dA q 0) v):=gA.setCell (S:=fun k=>k=q) (p:=(dA q 0)) (gA.refl _ _) (fun _=>rfl) _;refine⟨⟨heap_set h.rf.mA 0 _,h.rf.base,(ho.sB fun g f=>Below.heap_setCell _ _ _ _ ?_).dE hB,fun s c=>?_⟩,h.but.trans a (fun _ _ h=>h),fun i j=>?_⟩
 ·rintro rfl;have:=(ho.lt f).1;omega
 ·have b:=h.rf.nodes s (hs s c);refine⟨b.mB.but a (oK h.rf),b.kids.sB fun g f=>a.block g (b.kids.lt f).2 ?_⟩;rintro rfl;obtain⟨d,l⟩:=b.kids.ty f;exact RA l h.rf.mA nA rfl
 ·rcases j with e|e|⟨s,c,e⟩
  ·exact h.ft i (.inl e)
  ·exact .inr (uA ((ho.lt e).1))
  ·exact h.ft i (.inr (.inr ⟨s,hs s c,e⟩))
theorem oh{w w':World}{g:Nat}(e:w'.heap[g]? = w.heap[g]?)(o:Nat):w'.cell? (dA g o)=w.cell? (dA g o):=by simp[World.cell?,e]
def oH(bl:List Int)(foc:Int)(j:Nat):Int:=if foc∈bl.take j then 0 else foc
theorem Ve{bl:List Int}{foc:Int}{j:Nat}(hj:j<bl.length):oH bl foc (j+1)=if oH bl foc j=bl[j] then 0 else oH bl foc j:=by
 unfold oH;rw[List.take_succ_eq_append_getElem hj];by_cases e:foc∈bl.take j
 ·rw[if_pos (List.mem_append.2 (.inl e)),if_pos e];split<;>rfl
 ·simp only[List.mem_append,e,false_or,List.mem_singleton,if_false]
theorem qh(i:Int)(w:World)(hwf:WF y.d)(h:Rf w B q y):fA 91 #[iA q,aA i] w (gC w B q y (OD y.d i).1 (OD y.d i).2):=by
 have H0:=Zh h;have ah:=Zh hwf;have HA:=Zh hwf.VC;have hl:y.rs.length<=1000:=(by have:=hwf.xG;rw[show y.d.l=y.l from rfl,MD] at this;omega);have a2:q<w.heap.size:=FA h.mA;have ay:Hid (B<=w.heap.size):=Zh (uA h.base);cases hi:lA y.l i with
 |false=>
  have HD:Hid (OD y.d i=(2,y.d)):=Zh (by unfold OD;rw[if_pos (show lA y.d.l i=false from hi)]);have HI:=Zh hi;clear h hi hwf;go_enter func91,ntmps91;go_wp2_with fail;refine zA (yH i w hl HI H0) ?_;go_wp2_with fail;go_ret;rw[HD.out];exact gC.same H0 Ze rfl
 |true=>
  have P:¬lA y.d.l i=false:=(by rw[show y.d.l=y.l from rfl,hi];simp);obtain⟨ki,ai,I,_⟩:=FC HA hi;have a1:=Zh I;have aj:=Zh hi;by_cases h1:i=1
  ·have HD:Hid (OD y.d i=(4,y.d)):=Zh (by unfold OD;rw[if_neg P,if_pos h1]);have az:(i==1)=true:=(by simpa using h1);clear h hi hwf P h1 I;go_enter func91,ntmps91;go_wp2_with fail;refine zA (rB i w HA hl ai a1 H0) ?_;go_wp2_with fail;go_ret;rw[HD.out];exact gC.same H0 Ze rfl
  ·have HD:Hid (OD y.d i=(0,{y.d with l:=qE y.l i,foc:=if y.foc∈below (QA y.l i) i then 0 else y.foc})):=Zh (by unfold OD;rw[if_neg P,if_neg h1];rfl);have az:(i==1)=false:=(by simpa using h1);clear h hi hwf P h1 I;go_enter func91,ntmps91;go_wp2_with fail;refine zA (rB i w HA hl ai a1 H0) ?_;go_wp2_with fail;refine(zS i w ah aj H0).mono ?_;rintro e w6 ⟨rfl,v6,b0,r6,l6⟩;obtain⟨a,Q⟩:∃a:Rx,a = {y with v:=v6,rs:=b0}:=⟨_,rfl⟩;have L6:Hid (a.l=QA y.l i):=Zh (by rw[Q];exact l6);have F6:Hid (a.n=y.n/\a.R=y.R/\a.foc=y.foc):=Zh (by rw[Q];exact⟨rfl,rfl,rfl⟩);rw[<-Q] at r6;have D6:=Zh r6;have b1:Hid (EB a.l):=Zh (by rw[L6.out];exact DI HA (hH _ _));have b2:a.rs.length<=1000:=by
    have:=KI (hH y.l i);rw[<-L6.out,MD,MD] at this;omega
   have a3:lA a.l i=true:=(by rw[L6.out,eG];exact aj);have R:Hid (Tr (fun z=>lA a.l z=true) (yA a.l) (xA a.l)):=Zh (by rw[L6.out];exact EI (i:=i) ah.tr);have ak:Hid (Hb (xA a.l) (a.l.length+1) i):=Zh (by
    have:=R.MQ (L:=WA a.l) (fun y hy=>vG.1 hy) (y:=i) a3;simpa[WA] using this)
   have a4:Hid (∀f c,lA a.l c=true->(sub (xA a.l) f c).length<=1000):=Zh (fun f c hc=>by
    have h1:=kJ (sub (xA a.l) f c) (WA a.l) (R.YS f c hc) (fun z hz=>vG.1 (R.eR f c z hc hz));simp only[WA,List.length_map,MD] at h1;omega)
   have al:=Zh a3;clear r6 l6 Q a3;go_wp2_with fail;refine(DU R b1 b2 a4 (a.l.length+1) i w6 ak al D6.rf).mono ?_;rintro e E ⟨A5,n5,c5,rfl,o5,b5⟩;obtain⟨bl,T⟩:=qA (sub (xA a.l) (a.l.length+1) i);rw[T] at o5;have am:Hid (qE y.l i=aH bl a.l/\below (QA y.l i) i=bl):=Zh (by
    have e:below (QA y.l i) i=bl:=(by rw[<-T,L6.out];rfl);exact⟨by unfold qE;rw[e,L6.out],e⟩)
   have D7:=Zh (D6.below b5);obtain⟨g1,g2,g3,g4,g5⟩:=qG o5 rfl;have HK:=Zh g5;have HN:=Zh g1;have bp:n5<=1000:=by
    have:=a4 (a.l.length+1) i al;rw[T,g1] at this;exact this
   have bq:q<w6.heap.size:=FA D6.rf.mA;have b3:Hid (∀g o,A5=some (dA g o)->g≠q):=Zh (by
    rintro g o rfl;rcases o5.form with⟨e,_⟩|⟨g',c',cur,e,_,hg',_⟩
    ·cases e
    ·injection e with e1;injection e1 with e1;injection e1 with e1;subst e1;omega)
   have bn:w.heap.size<=E.heap.size:=D7.but.size;obtain⟨nl,an⟩:=qA a.rs.length;have U:=Zh an;have bo:nl<=1000:=cA;clear o5 b5 T g1 g2 g3 g4 g5 an a4 ak D6;go_wp2_with fail;go_loopw [6,7] (fun s6 s7 wr=>∃j:Nat,j<=nl/\s7 = aA j/\Hid (kN.Own wr E.heap.size s6 ((cG bl (a.rs.take j)).map Rn.rn))/\Hid (eA E wr)) (fun _ s7 _=>nl-(intOf s7).toNat)
   case atStart=>exact⟨0,by omega,rfl,Zh (by simpa[cG] using Kind.Own.nil kN E E.heap.size),Zh Ze⟩
   case round=>
    obtain⟨j,hj,rfl,HO,HW⟩:=hrel;obtain⟨A6,n6,c6,rfl,h6,_⟩:=HO.slice;have b4:=HW.size;have D8:=Zh (D7.below HW);obtain⟨AL,cL,hv,ao,b6,hz,hh⟩:=D8.rf.slice;have c0:=D8.rf.c0;rw[hv,U.out] at c0;rw[U.out] at ao;clear hv b6 hz h6;by_cases b7:j<nl
    ·have ap:j<a.rs.length:=(uA U.out);obtain⟨b,o,rfl,hb,x0,x1,x2,x3,x4,x5,x6,x7⟩:=ZL hh ap;obtain⟨d,V⟩:=qA (a.rs[j].nd);have aq:=Zh V;obtain⟨Ai,ni,W,a5⟩:∃A n c,a.rs[j].va=⟨A,n,c⟩:=⟨_,_,_,rfl⟩;obtain⟨X,Y,Z,a6⟩:∃A n c,a.rs[j].vk=⟨A,n,c⟩:=⟨_,_,_,rfl⟩;rw[V] at x0 x1 x2 x3 x4 x7;rw[a5] at x5;rw[a6] at x6;have b8:Hid (a.rs[j].rn=⟨d.id,d.par,d.tag,d.txt,d.key,⟨Ai,ni,W⟩,⟨X,Y,Z⟩,d.note⟩):=Zh (by unfold Rn.rn;rw[V,a5,a6]);have ar:=Zh (nh (s:=bl) ap);have C:b<wr.heap.size:=hb;have b9:Hid ((cG bl (a.rs.take j)).length<=1000):=Zh (Nat.le_trans (Fk _ _) (by rw[List.length_take];omega));clear hh V a5 a6;go_wp2_with fail;obtain⟨H,rfl⟩:∃H:World,H=wr:=⟨_,rfl⟩;go_loopw [8,9] (fun s8 s9 wi=>∃(k:Nat) (F:Bool),k<=n5/\s9 = aA k/\s8= .bool F/\Hid (F=decide (d.id∈bl.take k))/\Hid (eA H wi)) (fun _ s9 _=>n5-(intOf s9).toNat)
     case atStart=>exact⟨0,false,by omega,rfl,rfl,Zh DA,Zh Ze⟩
     case round=>
      obtain⟨k,F,hk,rfl,rfl,HM,t⟩:=hrel;have ba:q<H.heap.size:=cA;have br:wr.cell? (dA q 0)=some (.slice (some (dA b o)) nl cL):=(t.cell (p:=(dA q 0)) ba).trans c0;have bs:wr.cell? ⟨b,o+j*8,none⟩=some (aA d.id):=(t.cell (p:=⟨b,o+j*8,none⟩) C).trans x0;by_cases a7:k<n5
      ·have J:k<bl.length:=(uA HN.out);obtain⟨O,go,rfl,a8,G⟩:=mD HK J;have hc:wr.cell? ⟨O,go+k,none⟩=some (aA bl[k]):=(t.cell (p:=⟨O,go+k,none⟩) (by show O<H.heap.size;omega)).trans ((HW.cell (p:=⟨O,go+k,none⟩) a8).trans G);have au:=Zh (Wc (x:=d.id) J);clear G x1 x2 x3 x4 x5 x6 x7;cases F with
       |true=>
        have a9:Hid (true=decide (d.id∈bl.take (k+1))):=Zh (by rw[au.out,<-HM.out];rfl);go_wp2_with fail;go_quiet (fail);go_wp2_with fail;go_roundw
        case rel=>exact⟨k+1,true,by omega,by go_num,rfl,a9,Zh (PA t _)⟩
        case measure=>simp[intOf];omega
       |false=>
        obtain⟨eq,bb⟩:=qA ((bl[k]==d.id));have a9:Hid (eq=decide (d.id∈bl.take (k+1))):=Zh (by rw[au.out,<-HM.out,bb];rfl);cases eq<;>
        ·go_wp2_with fail;go_quiet (fail);go_wp2_with fail;go_roundw
         case rel=>exact⟨k+1,_,by omega,by go_num,rfl,a9,Zh (PA t _)⟩
         case measure=>simp[intOf];omega
      ·obtain rfl:k=n5:=cA
       have av:Hid (F=decide (d.id∈bl)):=Zh (by have:=HM.out;rw[<-HN.out,List.take_length] at this;exact this);have aa:=Zh (HW.trans (t.mono b4));have bc:=aa.size;have ab:=Zh (HO.below t Zl);clear a7;cases F with
       |true=>
        have K:Hid (cG bl (a.rs.take (j+1))=cG bl (a.rs.take j)):=Zh (by rw[ar.out,aq.out,if_pos (by have:=av.out;simpa using this.symm)]);go_wp2_with fail;go_roundw
        case rel=>exact⟨j+1,by omega,by go_num,Zh (by rw[K.out];exact ab),aa⟩
        case measure=>simp[intOf];omega
       |false=>
        have K:Hid ((cG bl (a.rs.take (j+1))).map Rn.rn=(cG bl (a.rs.take j)).map Rn.rn++[⟨d.id,d.par,d.tag,d.txt,d.key,⟨Ai,ni,W⟩,⟨X,Y,Z⟩,d.note⟩]):=Zh (by
         rw[ar.out,aq.out,if_neg (by have:=av.out;simpa using this.symm),List.map_append,<-b8.out];rfl)
        have bt:wr.cell? ⟨b,o+j*8+1,none⟩=some (aA d.par):=(t.cell (p:=⟨b,o+j*8+1,none⟩) C).trans x1;have bu:wr.cell? ⟨b,o+j*8+2,none⟩=some (bA d.tag):=(t.cell (p:=⟨b,o+j*8+2,none⟩) C).trans x2;have bv:wr.cell? ⟨b,o+j*8+3,none⟩=some (bA d.txt):=(t.cell (p:=⟨b,o+j*8+3,none⟩) C).trans x3;have bw:wr.cell? ⟨b,o+j*8+4,none⟩=some (bA d.key):=(t.cell (p:=⟨b,o+j*8+4,none⟩) C).trans x4;have bx:wr.cell? ⟨b,o+j*8+5,none⟩=some (.slice Ai ni W):=(t.cell (p:=⟨b,o+j*8+5,none⟩) C).trans x5;have bz:wr.cell? ⟨b,o+j*8+6,none⟩=some (.slice X Y Z):=(t.cell (p:=⟨b,o+j*8+6,none⟩) C).trans x6;have c1:wr.cell? ⟨b,o+j*8+7,none⟩=some (aA d.note):=(t.cell (p:=⟨b,o+j*8+7,none⟩) C).trans x7;clear x0 x1 x2 x3 x4 x5 x6 x7 c0;go_wp2_with (at_builtin;refine kN.iC rfl _ _ rfl (v:=.slice A6 n6 c6) (l:=(cG bl (a.rs.take j)).map Rn.rn) (m:=[⟨d.id,d.par,d.tag,d.txt,d.key,⟨Ai,ni,W⟩,⟨X,Y,Z⟩,d.note⟩]) (B:=E.heap.size) rfl (ab.alloc _) rfl rfl RB (Kind.pA.lit (heap_alloc_new _ _) rfl) (by have:=b9.out;simp;omega) AA ?_;intro v' w3 M N bd;obtain⟨A9,n9,c9,rfl,_,_,_,_,_⟩:=M.slice);have be:Hid (kN.Own w3 E.heap.size (.slice A9 n9 c9) ((cG bl (a.rs.take (j+1))).map Rn.rn)):=Zh (by rw[K.out];exact M);have bf:Hid (eA E w3):=Zh ((aa.alloc bc _).grown N AA (fun k hk=>(ab.lt hk).1));clear M N bd;go_wp2_with fail;go_roundw
        case rel=>exact⟨j+1,by omega,by go_num,be,bf⟩
        case measure=>simp[intOf];omega
    ·obtain rfl:j=nl:=cA
     have ac:Hid (kN.Own wr E.heap.size (.slice A6 n6 c6) ((cG bl a.rs).map Rn.rn)):=Zh (by have:=HO.out;rw[<-U.out,List.take_length] at this;exact this);have D9:Hid (LB w B q y {a with foc:=oH bl a.foc 0} wr):=Zh (by have:=D8.out;rwa[show({a with foc:=oH bl a.foc 0}:Rx)=a by unfold oH;simp]);clear b7 hh ao HO;go_wp2_with fail;obtain⟨H,rfl⟩:∃H:World,H=wr:=⟨_,rfl⟩;clear c0;go_loopw [10] (fun ad wi=>∃k:Nat,k<=n5/\ad = aA k/\Hid (LB w B q y {a with foc:=oH bl a.foc k} wi)/\Hid (gA (fun g=>g=q) H wi)) (fun ad _=>n5-(intOf ad).toNat)
     case atStart=>exact⟨0,by omega,rfl,D9,Zh (gA.refl _ _)⟩
     case round=>
      obtain⟨k,hk,rfl,u,a0⟩:=hrel;have c3:=u.rf.c3;have f3:=u.rf.frozen 3;simp only at c3;by_cases a7:k<n5
      ·have J:k<bl.length:=(uA HN.out);obtain⟨O,go,rfl,a8,G⟩:=mD HK J;have bg:O≠q:=b3 _ _ rfl;have hc:wr.cell? ⟨O,go+k,none⟩=some (aA bl[k]):=by
        have e1:H.cell? ⟨O,go+k,none⟩=some (aA bl[k]):=(HW.cell (p:=⟨O,go+k,none⟩) a8).trans G;rw[<-e1];exact oh (a0.block O cA bg) _
       have ae:=Zh (Ve (foc:=a.foc) J);generalize oH bl a.foc k=fk at c3 ae u;by_cases he:fk=bl[k]
       ·have af:(fk==bl[k])=true:=(by simpa using he);have ag:Hid (oH bl a.foc (k+1)=0):=Zh (by rw[ae.out,if_pos he]);clear he G;generalize bl[k]=kd at hc af;go_wp2_with fail;go_quiet (fail);have bh:(wr.drewN nq).frozen? (dA q 3)=false:=f3;have bi:(wr.drewN nq).cell? (dA q 3)=some (aA fk):=c3;have aw:=Zh ((u.below (PA Ze nq)).trans ((u.rf.drewN nq).focus 0));have ax:Hid (gA (fun g=>g=q) H ((wr.drewN nq).setCell (dA q 3) (aA 0))):=Zh (gA.setCell (S:=fun g=>g=q) (p:=(dA q 3)) (a0.drewN nq) (fun _=>rfl) _);clear c3 f3 hc u;generalize wr.drewN nq=wq at bh bi aw ax|-;go_wp2_with fail;go_roundw
        case rel=>exact⟨k+1,by omega,by go_num,Zh (by rw[ag.out];exact aw),ax⟩
        case measure=>simp[intOf];omega
       ·have af:(fk==bl[k])=false:=(by simpa using he);have ag:Hid (oH bl a.foc (k+1)=fk):=Zh (by rw[ae.out,if_neg he]);clear he G;generalize bl[k]=kd at hc af;go_wp2_with fail;go_quiet (fail);go_wp2_with fail;go_roundw
        case rel=>exact⟨k+1,by omega,by go_num,Zh (by rw[ag.out];exact u.below (PA Ze _)),Zh (a0.drewN _)⟩
        case measure=>simp[intOf];omega
      ·obtain rfl:k=n5:=cA
       have bj:Hid (oH bl a.foc k=if a.foc∈bl then 0 else a.foc):=Zh (by unfold oH;rw[<-HN.out,List.take_length]);have bk:Hid (kN.Own wr E.heap.size (.slice A6 n6 c6) ((cG bl a.rs).map Rn.rn)):=Zh (ac.sB fun g hg=>a0.block g (ac.lt hg).2 (uA ((ac.lt hg).1)));have f0:=u.rf.frozen 0;have c0:=u.rf.c0;have bm:=Zh (u.rq (by omega:w.heap.size<=E.heap.size) a2 (uA ay.out) bk (fun r hr=>Ek hr));clear a7;go_wp2_with fail;go_ret;rw[HD.out];refine⟨rfl,_,bm,?_⟩;show D.mk ((cG bl a.rs).map (·.nd)) a.n a.R (oH bl a.foc k)=D.mk _ _ _ _;rw[Bo,bj.out,F6.out.1,F6.out.2.1,F6.out.2.2,am.out.2];show D.mk (aH bl a.l) _ _ _=_;rw[<-am.out.1];rfl
end P5
namespace P17
open Go.RowKit Kd P4 P5 P11 P12 P13 P14 P16
section
variable{P:Program}{α:Type}{K:Kind P α}{w w':World}{Q R S:Nat->Prop}{A:jA}{l:List α}{C:Nat}
end
section
variable{w w':World}{Q R S:Nat->Prop}{t:P8.TV}{C:Nat}
end
end P17
namespace P6
open Go.RowKit Kd P4 P5
variable{B p:Nat}{x:Dx}
def Lq(w:World)(e:Ending)(w':World):Prop:=e= .returned (.tuple #[.agg QD,.bool false])/\eA w w'
theorem Ph(y:Int){k:Nat}{nd:Nd}(w:World)(hk:k<x.rs.length)(hy:x.rs[k].nd.id=y)(hn:x.rs[k].nd=nd)(hal:nd.attrs.length<=1000)(hkl:nd.kids.length<=1000)(h:Dc w B p x):fA 193 #[iA p,aA y] w (jR w nd):=by
 have H:=Zh h;have o:=Zh hy;have q:=Zh hn;clear h hy hn;go_enter func193,ntmps193;go_wp2_with fail;refine(XP y _ hk o q hal hkl (H.alloc _)).mono ?_;rintro e b ⟨A,n,c,r,s,t,rfl,l,m,d⟩;have u:=Zh (((Below.refl _ w).alloc Zl (.cells QD 53)).trans (d.mono DA));have a:Hid (b.heap[w.heap.size]? = some (.cells QD 53 (0,0))):=Zh ((d.block _ DA).trans (heap_alloc_new w _));have f:=Zh l;have g:=Zh m;have j:w.heap.size<b.heap.size:=FA a;have z:=IA 0 a;have C:=IA 1 a;have E:=IA 2 a;have F:=IA 3 a;have G:=IA 4 a;have I:=IA 5 a;have J:=IA 6 a;have K:=IA 7 a;have M:∀i,b.frozen? ⟨w.heap.size,i,none⟩=false:=fun i=>by have L:=a.out;simp[World.frozen?,L]
 clear l m d;go_wp2_with fail;refine bodyPost_ret (v:=.tuple #[.agg (XA nd A n c r s t),.bool true]) (by simp[results,results193,go_sem,z,C,E,F,G,I,J,K,j]) rfl ?_;refine vZ u (D:=(w.alloc (.cells QD 53)).heap.size) DA f g ⟨_,a⟩ ?_;exact EA (EA (EA (EA (EA (EA (EA (EA (gA.refl _ _))))))))
theorem Fl(y:Int)(w:World)(hy:lA x.l y=false)(h:Dc w B p x):fA 193 #[iA p,aA y] w (Lq w):=by
 have H:=Zh h;have f:=Zh hy;clear h hy;go_enter func193,ntmps193;go_wp2_with fail;refine(Y7 y _ f (H.alloc _)).mono ?_;rintro e b ⟨rfl,c⟩;have g:=Zh (((Below.refl _ w).alloc Zl (.cells QD 53)).trans (c.mono DA));have a:Hid (b.heap[w.heap.size]? = some (.cells QD 53 (0,0))):=Zh ((c.block _ DA).trans (heap_alloc_new w _));have d:w.heap.size<b.heap.size:=FA a;have j:=IA 0 a;have k:=IA 1 a;have l:=IA 2 a;have m:=IA 3 a;have n:=IA 4 a;have o:=IA 5 a;have q:=IA 6 a;have r:=IA 7 a;have t:∀i,b.frozen? ⟨w.heap.size,i,none⟩=false:=fun i=>by have s:=a.out;simp[World.frozen?,s]
 clear c;go_wp2_with fail;refine bodyPost_ret (v:=.tuple #[.agg QD,.bool false]) (by simp[results,results193,go_sem,j,k,l,m,n,o,q,r,d]) rfl ⟨rfl,FG g ?_⟩;exact EA (EA (EA (EA (EA (EA (EA (EA (gA.refl _ _))))))))
theorem Y2(l:List Int)(t:Int)(A:jA)(n c:Nat)(w:World)(hn:l.length=n)(hn2:n<=1000000)(ht:t∉l)(H:kI.pA w w.heap.size A l):
 fA 82 #[.slice A n c,aA t] w fun e w'=>e= .returned (aA (-1))/\w=w':=by
 have d:=Zh H;have f:=Zh hn;have g:=Zh ht;clear H hn ht;go_enter func82,ntmps82;go_wp2_with fail;go_loop [8] (fun i=>∃k:Nat,k<=n/\i = aA k) (fun i=>n-(intOf i).toNat)
 case atStart=>exact⟨0,by omega,rfl⟩
 case round=>
  obtain⟨k,m,rfl⟩:=hrel;by_cases j:k<n
  ·have a:k<l.length:=(uA f.out);obtain⟨b,o,rfl,p,q⟩:=mD d a;have r:(t==l[k])=false:=beq_eq_false_iff_ne.2 (fun e=>g (e▸List.getElem_mem a));go_wp2;go_round
   case rel=>exact⟨k+1,by omega,by go_num⟩
   case measure=>simp[intOf];omega
  ·go_wp2;go_ret;exact⟨rfl,rfl⟩
theorem iW(l:List Int)(t:Int)(A:jA)(n c:Nat)(w:World)(hn:l.length=n)(hn2:n<=1000000)(H:kI.pA w w.heap.size A l):
 fA 104 #[.slice A n c,aA t] w fun e w'=>e= .returned (.bool (decide (t∈l)))/\w=w':=by
 have f:=Zh H;have g:=Zh hn;clear H hn;by_cases a:t∈l
 ·have b:=Zh a;have d:=Zh (decide_eq_true a);clear a;go_enter func104,ntmps104;go_wp2_with fail;refine zA (oM l t A n c w g hn2 b f) ?_;go_wp2_with fail;go_ret;exact⟨MB d.symm,rfl⟩
 ·have b:=Zh a;have d:=Zh (decide_eq_false a);clear a;go_enter func104,ntmps104;go_wp2_with fail;refine zA (Y2 l t A n c w g hn2 b f) ?_;go_wp2_with fail;go_ret;exact⟨MB d.symm,rfl⟩
structure Gc(w:World)(C g:Nat)(l:List Nd)(cur:Int):Prop where
 ge:C<=g
 at_:∃nd A n c A2 n2 c2,LA w g nd A n c A2 n2 c2/\kI.Own w C (.slice A2 n2 c2) nd.kids/\(lA l cur=true->nd.id=cur/\nd.par=yA l cur/\nd.kids=xA l cur)
theorem JU(hwf:WF x.d){w:World}(h:Dc w B p x){k:Nat}(hk:k<x.rs.length){i:Int}(hy:x.rs[k].nd.id=i):x.rs[k].nd.id=i/\x.rs[k].nd.par=yA x.l i/\x.rs[k].nd.kids=xA x.l i/\x.rs[k].nd.attrs.length<=1000/\x.rs[k].nd.kids.length<=1000:=by
 have a:=gF h hk hy;have b:=tQ h hwf hk;exact⟨hy,a.2.1.symm,a.2.2.symm,b.1,b.2.1⟩
def VL:Nd:=⟨0,0,⟨#[]⟩,⟨#[]⟩,⟨#[]⟩,[],[],0⟩
def Rr(w:World)(x:Dx)(i:Int)(N:Nat)(s5 s6 s7:Value)(wr:World):Prop:=∃(g j:Nat) (ok:Bool) (acc:List Int),s6 = iA g/\s7= .bool ok/\acc.length=j/\j<=N+1/\Hid (ok=lA x.l (it (yA x.l) j i))/\Hid (Gc wr w.heap.size g x.l (it (yA x.l) j i))/\Hid (kI.Own wr w.heap.size s5 acc)/\Hid (uE x.l i=acc++up (lA x.l) (yA x.l) (N+1-j) (it (yA x.l) j i))/\Hid (0<j->lA x.l i=true)/\Hid (eA w wr)
theorem fp(i:Int)(w:World)(hwf:WF x.d)(h:Dc w B p x):fA 188 #[iA p,aA i] w (BU w (uE x.l i)):=by
 have H:=Zh h;have a5:=Zh hwf;obtain⟨N,hN⟩:=qA x.rs.length;have a6:Hid (uE x.l i=up (lA x.l) (yA x.l) (N+1) i):=Zh (by unfold uE;rw[EJ,hN]);have ag:N<=1000:=(by have:=hwf.xG;rw[show x.d.l=x.l from rfl,EJ] at this;omega);have a7:Hid (∀j,lA x.l (it (yA x.l) j i)=true->lA x.l i=true->j<=N):=Zh (fun j hj Z=>by
  obtain⟨k,J⟩:=hwf.tr.dep i;have a8:=hwf.tr.KQ (L:=WA x.l) (fun y hy=>vG.1 hy) Z J;have ah:k<=N:=(by rw[<-hN];simpa[WA,Dx.l] using a8);rcases Nat.lt_or_ge j k with e|e
  ·omega
  ·have h0:=hwf.tr.FO J.1 e;rw[show yA x.d.l=yA x.l from rfl] at h0;rw[h0] at hj;have:=hwf.Ac;rw[show lA x.d.l 0=lA x.l 0 from rfl,hj] at this;cases this)
 clear h hwf hN;have R:Hid (∀(W:World) (y:Int),eA w W->fA 193 #[iA p,aA y] W fun e w'=>∃(a:Nd) (A:jA) (n c:Nat) (t:jA) (u z:Nat) (X:Bool),e= .returned (.tuple #[.agg (XA a A n c t u z),.bool X])/\X=lA x.l y/\kI.Own w' W.heap.size (.slice t u z) a.kids/\(lA x.l y=true->a.id=y/\a.par=yA x.l y/\a.kids=xA x.l y)/\eA W w'):=Zh (fun W y hb=>by
  have HX:=H.below hb;cases hy:lA x.l y with
  |true=>
   obtain⟨k,J,e,_⟩:=HX.place hy;obtain⟨q1,q2,q3,q4,q5⟩:=JU a5 HX J e;refine(Ph y W J e rfl q4 q5 HX).mono ?_;rintro e w' ⟨A,n,c,t,u,z,rfl,_,o,b⟩;exact⟨_,A,n,c,t,u,z,true,rfl,rfl,o,fun _=>⟨q1,q2,q3⟩,b⟩
  |false=>
   refine(Fl y W hy HX).mono ?_;rintro e w' ⟨rfl,b⟩;exact⟨VL,none,0,0,none,0,0,false,rfl,rfl,Kind.Own.nil _ _ _,fun h=>(by cases h),b⟩)
 go_enter func188,ntmps188;go_wp2_with fail;refine(R w i Ze).mono ?_;rintro e w1 ⟨a,A,n,c,t,u,z,X,rfl,a0,o1,K,b1⟩;have BX:Hid (Gc (w1.alloc (.cells (XA a A n c t u z) 53)) w.heap.size w1.heap.size x.l i):=Zh ⟨b1.size,a,A,n,c,t,u,z,LA.new _ _ _ _ _ _ _ _,o1.alloc _,K⟩;have B1:Hid (eA w (w1.alloc (.cells (XA a A n c t u z) 53))):=Zh (b1.alloc b1.size _);have a9:=Zh a0;clear o1 K b1 a0
 go_upto_block 0 with fail
 generalize w1.alloc (.cells (XA a A n c t u z) 53)=W1 at BX B1|-;generalize w1.heap.size=g1 at BX|-;go_wp2_with fail;go_loopw [5,6,7] (fun s5 s6 s7 wr=>Rr w x i N s5 s6 s7 wr) (fun s5 _ _ _=>match s5 with| .slice _ n _=>N+1-n|_=>0)
 case atStart=>exact⟨g1,0,X,[],rfl,rfl,rfl,by omega,a9,BX,Zh (Kind.Own.nil _ _ _),Zh (by rw[a6.out];rfl),Zh (fun h=>absurd h cA),B1⟩
 case round=>
  obtain⟨g,j,X,E,rfl,rfl,T,hj,s,a1,HO,HU,H0,HB⟩:=hrel;have D:=Zh T;clear T;obtain⟨A5,r,c5,rfl,h5,_⟩:=HO.slice;obtain rfl:r=j:=by rw[<-h5];exact D
  clear h5;cases X with
  |false=>
   have HE:Hid (uE x.l i=E):=Zh (by rw[HU.out,r9 s.out.symm,List.append_nil]);go_wp2_with fail;go_ret;rw[HE.out];exact⟨_,_,_,rfl,HO,HB⟩
  |true=>
   have Z:lA x.l i=true:=by
    by_cases e:0<r
    ·exact H0 e
    ·obtain rfl:r=0:=cA
     exact s.symm
   have ai:=a7 r s.symm Z;have HI:=Zh Z;have aa:Hid (uE x.l i=(E++[it (yA x.l) r i])++up (lA x.l) (yA x.l) (N+1-(r+1)) (it (yA x.l) (r+1) i)):=Zh (by
    rw[HU.out,show N+1-r=(N+1-(r+1))+1 by omega,q9 s.out.symm,UF];simp)
   obtain⟨a,A,n,c,t,u,z,nb,o2,K⟩:=a1.at_;obtain⟨q1,q2,q3⟩:=K s.symm;have aj:=Zh a1.ge;have NB:=Zh nb;have ak:=Zh o2;have Q1:=Zh q1;have Q2:Hid (a.par=it (yA x.l) (r+1) i):=Zh (by rw[UF];exact q2);have z0:=nb.c0;have ab:=HB.size;clear Z nb o2 K q1 q2 q3;go_upto_region 6 with(at_builtin;refine kI.iC rfl _ _ rfl (v:=.slice A5 r c5) (l:=E) (m:=[a.id]) (B:=w.heap.size) rfl (HO.alloc _) rfl rfl RB (Kind.pA.lit (heap_alloc_new _ _) rfl) (by have:=D.out;simp;omega) AA ?_;intro v' w3 M C ac;obtain⟨A6,n6,c6,rfl,h6,_,_,_,_⟩:=M.slice);have a2:Hid (kI.Own w3 w.heap.size (.slice A6 n6 c6) (E++[it (yA x.l) r i])):=Zh (by rw[<-Q1.out];exact M);have ad:Hid (n6=r+1):=Zh (by rw[<-h6,List.length_append,D.out];rfl);have a3:gA (fun k=>(Value.slice A5 r c5).ownBlock=some k) wr w3:=((gA.refl _ wr).alloc _).trans (gA.sG (S:=fun k=>(Value.slice A5 r c5).ownBlock=some k) C (fun g hg _=>hg)) (fun _ _ h=>h);have O:Hid (eA w w3):=Zh ((HB.alloc ab _).grown C AA (fun k J=>(HO.lt J).1));have P:Hid (LA w3 g a A n c t u z):=Zh (NB.eJ a3 (fun e=>by obtain⟨d,hd⟩:=HO.ty e;exact RA hd NB nA rfl));clear M C ac a3 h6 z0;have z0:=P.c0;have z1:=P.c1;have z2:=P.c2;have z3:=P.c3;have z4:=P.c4;have z5:=P.c5;have z6:=P.c6;have z7:=P.c7;have Y:Hid (LA (w3.alloc (.cells (XA a A n c t u z) 53)) w3.heap.size a A n c t u z):=Zh (LA.new _ _ _ _ _ _ _ _);have B4:Hid (eA w (w3.alloc (.cells (XA a A n c t u z) 53))):=Zh (O.alloc O.size _);have O4:=Zh (a2.alloc (.cells (XA a A n c t u z) 53));have G4:=Zh O.size;go_upto_region 4 with fail;generalize w3.alloc (.cells (XA a A n c t u z) 53)=w4 at Y B4 O4|-;generalize w3.heap.size=f at Y G4|-;clear z0 z1 z2 z3 z4 z5 z6 z7 P O a2;have y1:=Y.c1;go_wp2_with fail;refine(R w4 a.par B4).mono ?_;rintro e w5 ⟨nd',A',n',c',F,G,I,ae,rfl,U,o5,V,b5⟩;have q:=Zh (Y.below b5 Y.lt);have B5:=Zh (B4.trans (b5.mono B4.size));have O5:=Zh (O4.below b5 Zl);have a4:=Zh U;have af:=Zh V;have K5:=Zh o5;have al:f<w4.heap.size:=Y.lt;clear U V o5 b5 y1;have u0:=q.c0;have f0:=q.frozen 0;have u1:=q.c1;have f1:=q.frozen 1;have u2:=q.c2;have f2:=q.frozen 2;have u3:=q.c3;have f3:=q.frozen 3;have u4:=q.c4;have f4:=q.frozen 4;have u5:=q.c5;have f5:=q.frozen 5;have u6:=q.c6;have f6:=q.frozen 6;have u7:=q.c7;have f7:=q.frozen 7;have N6:Hid (LA ((((((((w5.setCell (dA f 0) (aA nd'.id)).setCell (dA f 1) (aA nd'.par)).setCell (dA f 2) (bA nd'.tag)).setCell (dA f 3) (bA nd'.txt)).setCell (dA f 4) (bA nd'.key)).setCell (dA f 5) (.slice A' n' c')).setCell (dA f 6) (.slice F G I)).setCell (dA f 7) (aA nd'.note)) f nd' A' n' c' F G I):=Zh (q.uV (nd':=nd'));have Q:Hid (gA (fun k=>k=f) w5 ((((((((w5.setCell (dA f 0) (aA nd'.id)).setCell (dA f 1) (aA nd'.par)).setCell (dA f 2) (bA nd'.tag)).setCell (dA f 3) (bA nd'.txt)).setCell (dA f 4) (bA nd'.key)).setCell (dA f 5) (.slice A' n' c')).setCell (dA f 6) (.slice F G I)).setCell (dA f 7) (aA nd'.note))):=Zh (EA (EA (EA (EA (EA (EA (EA (EA (gA.refl _ _)))))))))
   go_upto_block 0 with fail
   generalize ((((((((w5.setCell (dA f 0) (aA nd'.id)).setCell (dA f 1) (aA nd'.par)).setCell (dA f 2) (bA nd'.tag)).setCell (dA f 3) (bA nd'.txt)).setCell (dA f 4) (bA nd'.key)).setCell (dA f 5) (.slice A' n' c')).setCell (dA f 6) (.slice F G I)).setCell (dA f 7) (aA nd'.note))=w6 at N6 Q|-;have B6:Hid (eA w w6):=Zh (B5.trans (Q.AB (fun k _ e=>by have:=G4.out;omega) B5.size));have O6:Hid (kI.Own w6 w.heap.size (.slice A6 n6 c6) (E++[it (yA x.l) r i])):=Zh (O5.but Q (fun k J e=>by obtain⟨d,hd⟩:=O5.ty J;exact RA hd (e▸q.out) nA rfl));have K6:Hid (kI.Own w6 w.heap.size (.slice F G I) nd'.kids):=Zh ((K5.but Q (fun k J e=>by obtain⟨d,hd⟩:=K5.ty J;exact RA hd (e▸q.out) nA rfl)).dE B4.size);clear u0 u1 u2 u3 u4 u5 u6 u7 f0 f1 f2 f3 f4 f5 f6 f7;go_wp2_with fail;go_roundw
   case rel=>exact⟨f,r+1,ae,E++[it (yA x.l) r i],rfl,rfl,by rw[List.length_append,D.out];rfl,by omega,Zh (by rw[<-Q2.out];exact a4),Zh ⟨G4,nd',A',n',c',F,G,I,N6,K6,by rw[<-Q2.out];exact af⟩,O6,aa,Zh (fun _=>HI),B6⟩
   case measure=>rw[ad.out];omega
theorem ie(a b:Int)(w:World)(hwf:WF x.d)(h:Dc w B p x):fA 178 #[iA p,aA a,aA b] w fun e w'=>e= .returned (.bool (inside x.l a b))/\eA w w':=by
 have H:=Zh h;have d:=Zh hwf;have g:(uE x.l a).length<=1000000:=by
  have q:∀(f:Nat) (i:Int),(up (lA x.l) (yA x.l) f i).length<=f:=by
   intro f
   induction f with
   |zero=>intro i;simp[up]
   |succ f ih=>intro i;rw[up];split<;>simp;exact ih _
  have y:=q (x.l.length+1) a;have r:=hwf.xG;rw[show x.d.l=x.l from rfl] at r;unfold uE;omega
 have s:=Zh g;clear h hwf g;go_enter func178,ntmps178;go_wp2_with fail;refine(fp a w d H).mono ?_;rintro e t ⟨A,n,c,rfl,j,k⟩;obtain⟨l,_,_,_,m⟩:=qG j rfl;have u:=Zh k;have o:=Zh l;have v:=Zh m;clear j k l m;go_wp2_with fail;refine(iW (uE x.l a) b A n c t o (by rw[<-o.out];exact s) v).mono ?_;rintro e w' ⟨rfl,rfl⟩;go_wp2_with fail;go_ret;exact⟨rfl,u⟩
end P6
namespace P12
open Go.RowKit Go.ChangeShapes Go.WideShapes Go.Deep Kd P4 P11
theorem Gm:prog.cellsOf 5=1:=by kernel_rfl
theorem gj{H:Type}{enc:TypeId×Value->H}{w:World}{t e:TypeId}(ht:prog.underlying t=some (.slice e)){n c:Nat}{d:DataW H}{p:List MemPlace}
 (h:DataW.Trod enc prog w 0 (fun _=>true) true t (.slice none n c) d p):c=0:=by
 obtain⟨a,b⟩:=h;rcases DataW.trod_slice ht b with⟨hcs,_⟩|⟨ad,len,cap,elems,rest,m,hfu,hcs,_⟩
 ·have e:n=0/\c=0:=(by simpa[Value.cells] using hcs);exact e.2
 ·exact absurd hcs (by simp[Value.cells])
theorem Rt{H:Type}{enc:TypeId×Value->H}{w:World}{v:Value}{d:DataW H}{p:List MemPlace}{base:Nat}
 (hv:Value.okWide prog w .any base 23 v) (h:DataW.Trod enc prog w 0 (fun _=>true) true 23 v d p):
 ∃A n c l,v= .slice A n c/\l.length=n/\n<=c/\c<=maxLen/\(A=none->c=0)/\kB.pA w w.heap.size A l:=by
 obtain⟨A,n,c,l,f,g,j,k,_,m⟩:=kB.open_ (base:=base) (0:UInt8) (fun _=>True) Gm (fun i o x hx _=>by
  obtain⟨z,rfl,_,a⟩:=DataW.trod_int underlying5 hx;simp[Lit.wf] at a;refine⟨UInt8.ofNat z.toNat,?_,trivial⟩;have f:0<=z:=a.1;have g:z<=255:=a.2;have b:z.toNat<256:=cA;have e:(((UInt8.ofNat z.toNat).toNat:Nat):Int)=z:=by
   rw[show(UInt8.ofNat z.toNat).toNat=z.toNat from UInt8.toNat_ofNat_of_lt' (by simpa using b)];omega
  show[Value.int .u8 z]=[Value.int .u8 (((UInt8.ofNat z.toNat).toNat:Nat):Int)];rw[e]) hv h
 subst f;refine⟨A,n,c,l,rfl,g,j,k,?_,m⟩;rintro rfl;exact gj underlying23 h
end P12
end Go.Proofs.YtngnkmeaaneklaaGreat
