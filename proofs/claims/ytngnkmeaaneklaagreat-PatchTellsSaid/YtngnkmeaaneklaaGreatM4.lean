/- A part of the proof. No condition. -/
import Derived.Deep.MidRow
import Derived.Deep.DeepCutAuto
import Derived.Deep.CutBlock
import Derived.Test.YtngnkmeaaneklaaGreatM1
set_option linter.unusedVariables false
set_option linter.unusedSimpArgs false
set_option maxRecDepth 100000
set_option maxHeartbeats 40000000
namespace Go.Proofs.YtngnkmeaaneklaaGreat
open Tryz
namespace P5
open Go.RowKit Kd P4
variable{B p:Nat}{x:Dx}
theorem pn(i:Int)(l:List Int):l.take l.length++i:: l.drop l.length=ED i 0 l:=by
 unfold ED;rw[if_pos rfl];simp
theorem Na:∀{l:List Int} {b:Int} (i:Int),b∈l->l.Nodup->b≠0->l.take (ZD l b)++i:: l.drop (ZD l b)=ED i b l
 |[],_,_,h,_,_=>absurd h DA
 |a:: r,b,i,h,hn,h0=>by
  obtain⟨h1,h2⟩:=List.nodup_cons.1 hn;unfold ED;rw[if_neg h0,List.flatMap_cons];by_cases e:b=a
  ·subst e;have:r.flatMap (fun c=>if c=b then[i,c] else[c])=r:=by
    have:∀m:List Int,b∉m->m.flatMap (fun c=>if c=b then[i,c] else[c])=m:=by
     intro m
     induction m with
     |nil=>intro _;rfl
     |cons c m ih=>
      intro hm;simp only[List.mem_cons,not_or] at hm;rw[List.flatMap_cons,if_neg (Ne.symm hm.1),ih hm.2];rfl
    exact this r h1
   rw[this];simp[ZD]
  ·have ih:=Na i ((List.mem_cons.1 h).resolve_left e) h2 h0;unfold ED at ih;rw[if_neg h0] at ih;rw[if_neg (Ne.symm e),<-ih];simp[ZD,e]
theorem g8{w w7:World}{y:Dx}{m:Nat}{q:Int}(h:Dc w B p y)(hm:m<y.rs.length)(hym:y.rs[m].nd.id=q){f:List Int->List Int}{A7:jA}{n7 c7:Nat}
 (hb:gA (fun g=>y.rs[m].vk.val.ownBlock=some g) w w7) (ho:kI.Own w7 B (.slice A7 n7 c7) (f y.rs[m].nd.kids)) (hv:∀g,(Value.slice A7 n7 c7).ownBlock=some g->y.rs[m].vk.val.ownBlock=some g\/w.heap.size<=g):
 ∃rs2:List Rw,oC w B p y {y with rs:=rs2} (w7.setCell ⟨y.rs[m].b,6,none⟩ (.slice A7 n7 c7))/\rs2.map (·.nd)=iB y.l q (ZC f)/\rs2.map eC=y.rs.map eC:=by
 obtain⟨c,a⟩:∃c:Rw,c=⟨y.rs[m].b,y.rs[m].va,⟨A7,n7,c7⟩,ZC f y.rs[m].nd⟩:=⟨_,rfl⟩;have e:=h.Cb hm (r:=c) (f:=f) (w':=w7) (by rw[a]) (by rw[a]) (by rw[a]) hb (by rw[a];exact ho) (fun g i=>hv g (by rw[a] at i;exact i));have d:c.vk.val= .slice A7 n7 c7:=(by rw[a];rfl);rw[d] at e;have j:=JO h hm (r:=c) (f:=ZC f) (by rw[a]);rw[hym] at j;exact⟨(y.put m c).rs,e,j,cT (x:=y) hm (r:=c) (by rw[a]) (by rw[a];rfl)⟩
theorem m8{w:World}{y:Dx}{k:Nat}{i:Int}(q:Int)(h:Dc w B p y)(hk:k<y.rs.length)(hy:y.rs[k].nd.id=i):
 ∃rs3:List Rw,oC w B p y {y with rs:=rs3} (w.setCell ⟨y.rs[k].b,1,none⟩ (aA q))/\rs3.map (·.nd)=iB y.l i (rD q):=by
 have a:=h.gR hk (r:=⟨y.rs[k].b,y.rs[k].va,y.rs[k].vk,rD q y.rs[k].nd⟩) rfl rfl rfl rfl (h.nd hk).mB (i:=1) (u:=aA q) rfl;have e:=JO h hk (r:=⟨y.rs[k].b,y.rs[k].va,y.rs[k].vk,rD q y.rs[k].nd⟩) (f:=rD q) rfl;rw[hy] at e;exact⟨_,a,e⟩
theorem dY{w:World}{y:Dx}{m:Nat}{q:Int}(h:Dc w B p y)(hm:m<y.rs.length)(hy:y.rs[m].nd.id=q):xA y.l q=y.rs[m].nd.kids:=(gF h hm hy).2.2
theorem tn(i q b:Int)(w:World)(hi:lA x.l i=true)(hp:lA x.l q=true)(hq:(b != 0)=false)(h1:(i==1)=false)(ht:(MA x.l q).toList.isEmpty=false)(hv:P1.fC (MA x.l q).data.toList=false)(hwf:WF x.d)(hin:inside x.l q i=false)(hok:lK x.l i q b)(h:Dc w B p x):fA 139 #[iA p,aA i,aA q,aA b] w (Made w B p x .nilIface {x.d with l:=OC x.l i q b}):=by
 have B0:=Zh (Below.refl w.heap.size w);have H0:=Zh h;have PK:=Zh hok;obtain⟨m,hm,E,_⟩:=h.place hp;obtain⟨tg,F⟩:=qA (x.rs[m].nd.tag);have t:tg=MA x.l q:=(by rw[(gF h hm E).1,F]);obtain⟨bm,N⟩:=qA (x.rs[m].b);rw[<-t] at ht;rw[<-t] at hv;obtain⟨k,hk,O,_⟩:=h.place hi;obtain⟨bk,P⟩:=qA (x.rs[k].b);have G:Tr (fun y=>lA x.l y=true) (yA x.l) (xA x.l):=hwf.tr;have Q:=Zh (EI (i:=i) G);have BF:=Zh (bT G hok);have hR:x.rs.length<=200:=(by have h1:=h.ar.len;have h2:=h.ar.room;rw[List.length_map] at h1;omega);have HI:=Zh hi;have HP:=Zh hp;have R:=Zh E;have a6:=Zh F;have H:=Zh N;have HV:=Zh hv;have S:=Zh hwf;have a7:=Zh hin;have a8:=Zh O;have a9:=Zh P;clear h hi hp E F t N hv hwf hin O P hok G;go_enter func139,ntmps139;go_wp2_with fail;refine(xC i w HI H0).mono ?_;rintro e w1 ⟨rfl,j⟩;have B1:=Zh (B0.trans (j.mono B0.size));have H1:=Zh (H0.below j);clear j;go_wp2_with fail;refine(xC q w1 HP H1).mono ?_;rintro e w2 ⟨rfl,j⟩;have B2:=Zh (B1.trans (j.mono B1.size));have H2:=Zh (H1.below j);clear j;go_wp2_with fail;refine(VF q w2 hm R H H2).mono ?_;rintro e w3 ⟨rfl,j⟩;have B3:=Zh (B2.trans (j.mono B2.size));have H3:=Zh (H2.below j);have d2:w3.cell? (dA bm 2)=some (bA tg):=(by have:=(H3.nd hm).c2;rwa[H.out,a6.out] at this);clear j;go_wp2_with fail;refine zA (MI tg w3 HV) ?_;go_wp2_with fail;refine(zP q i w3 a7 S HP HI H3).mono ?_;rintro e w4 ⟨rfl,j⟩;have B4:=Zh (B3.trans (j.mono B3.size));have H4:=Zh (H3.below j);clear j;go_wp2_with fail;refine(dT i w4 S HI H4).mono ?_;rintro e s ⟨rfl,a,u,I,o⟩;have DL:=Zh ((oC.sC H0 B4).trans u);have L1:=Zh I;have L2:=Zh o;have HX:=Zh u.dc;obtain⟨f,T,U⟩:=YP o hm;have V:=Zh (T.trans R);have r:=Zh (U.trans H);have EK:Hid (xA (QA x.l i) q=a[m].nd.kids):=Zh (by rw[<-I];exact dY u.dc f V);have ND:Hid (a[m].nd.kids.Nodup):=Zh (by rw[<-EK.out];exact Q.IC q);have aa:a[m].nd.kids.length<=1000000:=by
  have h1:=kJ a[m].nd.kids (WA (QA x.l i)) ND (fun c hc=>vG.1 (Q.lB q c (by rw[EK.out];exact hc)).2.1);rw[hH] at h1;simp only[WA,List.length_map,Dx.l] at h1;omega
 obtain⟨⟨M,C,J⟩,K⟩:∃v,a[m].vk=v:=⟨_,rfl⟩;have OW:Hid (kI.Own s B (.slice M C J) a[m].nd.kids):=Zh (by have:=(u.dc.nd f).kids;rw[K] at this;exact this);have V6:Hid (a[m].vk.val= .slice M C J):=Zh (by rw[K];rfl);obtain⟨g1,g2,g3,g4,g5⟩:=qG OW rfl;have X:=Zh g1;have af:=Zh g5;have d6:s.cell? (dA bm 6)=some (.slice M C J):=(by have:=(u.dc.nd f).c6;rwa[r.out,V6.out] at this);have ag:B<=s.heap.size:=(by have h1:=u.dc.base;have h2:=u.dc.lt (.inl rfl:UC p {x with rs:=a} p);omega);have ah:C<=1000000:=cA;have ab:bm<s.heap.size:=(by have:=(u.dc.nd f).lt;rwa[r.out] at this);clear u I o T U K g1 g2 g3 g4 g5 d2;go_wp2_with fail;have b0:b=0:=(by simpa using hq);have ac:=Zh b0;clear b0;refine(LW a[m].nd.kids i C (B:=B) (vb:=s.heap.size) (v:=.slice M C J) (s.alloc (.cells #[aA i] 3)) (by rw[X.out];exact Zl) aa AA (OW.alloc _) (heap_alloc_new s _) (fun e=>by have:=(OW.lt e).2;omega)).mono ?_;rintro e L ⟨A7,n7,c7,rfl,o7,b7,Y⟩;have O7:Hid (kI.Own L B (.slice A7 n7 c7) (ED i b a[m].nd.kids)):=Zh (by have:=pn i a[m].nd.kids;rw[X.out] at this;rw[ac.out];rw[this] at o7;exact o7);have B7:Hid (gA (fun g=>a[m].vk.val.ownBlock=some g) s L):=Zh (by rw[V6.out];exact gA.trans (gA.alloc (gA.refl (fun g=>(Value.slice M C J).ownBlock=some g) s) _) b7 (fun _ _ h=>h));have V7:Hid (∀g,(Value.slice A7 n7 c7).ownBlock=some g->a[m].vk.val.ownBlock=some g\/s.heap.size<=g):=Zh (by intro g hg;rw[V6.out];rcases Y g hg with e|e;(exact .inl e);(simp at e;exact .inr cA));have k7:L.heap[bm]? = s.heap[bm]?:=B7.block _ ab (fun e=>by
  obtain⟨d,hd⟩:=(HX.nd f).kids.ty e;have:=(HX.nd f).mA;rw[r.out] at this;exact RA hd this nA rfl)
 have e6:L.cell? (dA bm 6)=some (.slice M C J):=(World.cell?_of_block k7).trans d6;have f6:L.frozen? (dA bm 6)=false:=(by have h1:=(HX.nd f).mA;rw[r.out] at h1;have hb:=k7.trans h1;simp[World.frozen?,hb]);clear o7 b7 Y d6 k7;go_wp2_with fail;obtain⟨n,Z,o,a0⟩:=g8 HX f V B7 O7 V7;have ai:Hid (a[m].b=bm):=r;have D2:Hid (oC s B p {x with rs:=a} {x with rs:=n} (L.setCell (dA bm 6) (.slice A7 n7 c7))):=Zh (by rw[<-r.out];exact Z);have L3:Hid (n.map (·.nd)=iB (QA x.l i) q (ZC (ED i b))):=Zh (by rw[<-L1.out];exact o);obtain⟨z,a1,a2⟩:=YP (a0.trans L2) hk;have a3:=Zh (a1.trans a8);have A:=Zh (a2.trans a9);clear Z o a0 a1 a2 e6 f6;generalize L.setCell (dA bm 6) (.slice A7 n7 c7)=W at D2|-;refine(VF (x:={x with rs:=n}) i W z a3 A D2.dc).mono ?_;rintro e w8 ⟨rfl,b8⟩;have D8:=Zh (D2.below b8);have H8:=Zh (D2.dc.below b8);obtain⟨pv,a4⟩:=qA (n[k].nd.par);have d1:w8.cell? (dA bk 1)=some (aA pv):=(by have:=(H8.nd z).c1;rw[A.out,a4] at this;exact this);have f1:w8.frozen? (dA bk 1)=false:=(by have:=(H8.nd z).frozen 1;rw[A.out] at this;exact this);clear b8 a4;go_wp2_with fail;go_ret;obtain⟨ad,a5,ae⟩:=m8 q H8 z a3;rw[A.out] at a5;refine⟨rfl,_,(DL.trans D8).trans a5,?_⟩;show D.mk (ad.map (·.nd)) x.n x.R x.foc=D.mk (OC x.l i q b) x.n x.R x.foc;rw[ae];show D.mk (iB (n.map (·.nd)) i (rD q)) _ _ _=_;rw[L3.out];rfl
theorem xn(i q b:Int)(w:World)(hi:lA x.l i=true)(hp:lA x.l q=true)(hq:(b != 0)=true)(hb:lA x.l b=true)(hbi:(b==i)=false)(DH:(yA x.l b != q)=false)(h1:(i==1)=false)(ht:(MA x.l q).toList.isEmpty=false)(hv:P1.fC (MA x.l q).data.toList=false)(hwf:WF x.d)(hin:inside x.l q i=false)(hok:lK x.l i q b)(h:Dc w B p x):fA 139 #[iA p,aA i,aA q,aA b] w (Made w B p x .nilIface {x.d with l:=OC x.l i q b}):=by
 have B0:=Zh (Below.refl w.heap.size w);have H0:=Zh h;have PK:=Zh hok;obtain⟨m,hm,G,_⟩:=h.place hp;obtain⟨tg,H⟩:=qA (x.rs[m].nd.tag);have u:tg=MA x.l q:=(by rw[(gF h hm G).1,H]);obtain⟨bm,Q⟩:=qA (x.rs[m].b);rw[<-u] at ht;rw[<-u] at hv;obtain⟨j,hj,I,_⟩:=h.place hb;obtain⟨pb,J⟩:=qA (x.rs[j].nd.par);rw[(gF h hj I).2.1,J] at DH;obtain⟨bj,R⟩:=qA (x.rs[j].b);obtain⟨k,hk,S,_⟩:=h.place hi;obtain⟨bk,T⟩:=qA (x.rs[k].b);have K:Tr (fun y=>lA x.l y=true) (yA x.l) (xA x.l):=hwf.tr;have U:=Zh (EI (i:=i) K);have BF:=Zh (bT K hok);have hR:x.rs.length<=200:=(by have h1:=h.ar.len;have h2:=h.ar.room;rw[List.length_map] at h1;omega);have HI:=Zh hi;have HP:=Zh hp;have HB:=Zh hb;have ab:=Zh I;have ac:=Zh J;have V:=Zh R;have X:=Zh G;have ad:=Zh H;have L:=Zh Q;have HV:=Zh hv;have Y:=Zh hwf;have ae:=Zh hin;have af:=Zh S;have ag:=Zh T;clear h hi hp G H u Q hv hwf hin S T hok K hb I J R;go_enter func139,ntmps139;go_wp2_with fail;refine(xC i w HI H0).mono ?_;rintro e w1 ⟨rfl,f⟩;have B1:=Zh (B0.trans (f.mono B0.size));have H1:=Zh (H0.below f);clear f;go_wp2_with fail;refine(xC q w1 HP H1).mono ?_;rintro e w2 ⟨rfl,f⟩;have B2:=Zh (B1.trans (f.mono B1.size));have H2:=Zh (H1.below f);clear f;go_wp2_with fail;refine(xC b w2 HB H2).mono ?_;rintro e w3 ⟨rfl,f⟩;have B3:=Zh (B2.trans (f.mono B2.size));have H3:=Zh (H2.below f);clear f;go_wp2_with fail;refine(VF q w3 hm X L H3).mono ?_;rintro e w4 ⟨rfl,f⟩;have B4:=Zh (B3.trans (f.mono B3.size));have H4:=Zh (H3.below f);have d2:w4.cell? (dA bm 2)=some (bA tg):=(by have:=(H4.nd hm).c2;rwa[L.out,ad.out] at this);clear f;go_wp2_with fail;refine zA (MI tg w4 HV) ?_;go_wp2_with fail;refine(VF b w4 hj ab V H4).mono ?_;rintro e w5 ⟨rfl,f⟩;have B5:=Zh (B4.trans (f.mono B4.size));have H5:=Zh (H4.below f);have d1:w5.cell? (dA bj 1)=some (aA pb):=(by have:=(H5.nd hj).c1;rwa[V.out,ac.out] at this);clear f;go_wp2_with fail;refine(zP q i w5 ae Y HP HI H5).mono ?_;rintro e w6 ⟨rfl,f⟩;have B6:=Zh (B5.trans (f.mono B5.size));have H6:=Zh (H5.below f);clear f;go_wp2_with fail;refine(dT i w6 Y HI H6).mono ?_;rintro e r ⟨rfl,a,z,M,s⟩;have DL:=Zh ((oC.sC H0 B6).trans z);have L1:=Zh M;have L2:=Zh s;have HX:=Zh z.dc;obtain⟨n,Z,a0⟩:=YP s hm;have a1:=Zh (Z.trans X);have t:=Zh (a0.trans L);have EK:Hid (xA (QA x.l i) q=a[m].nd.kids):=Zh (by rw[<-M];exact dY z.dc n a1);have ND:Hid (a[m].nd.kids.Nodup):=Zh (by rw[<-EK.out];exact U.IC q);have ah:a[m].nd.kids.length<=1000000:=by
  have h1:=kJ a[m].nd.kids (WA (QA x.l i)) ND (fun c hc=>vG.1 (U.lB q c (by rw[EK.out];exact hc)).2.1);rw[hH] at h1;simp only[WA,List.length_map,Dx.l] at h1;omega
 obtain⟨⟨N,E,F⟩,O⟩:∃v,a[m].vk=v:=⟨_,rfl⟩;have OW:Hid (kI.Own r B (.slice N E F) a[m].nd.kids):=Zh (by have:=(z.dc.nd n).kids;rw[O] at this;exact this);have V6:Hid (a[m].vk.val= .slice N E F):=Zh (by rw[O];rfl);obtain⟨g1,g2,g3,g4,g5⟩:=qG OW rfl;have ai:=Zh g1;have aj:=Zh g5;have d6:r.cell? (dA bm 6)=some (.slice N E F):=(by have:=(z.dc.nd n).c6;rwa[t.out,V6.out] at this);have ao:B<=r.heap.size:=(by have h1:=z.dc.base;have h2:=z.dc.lt (.inl rfl:UC p {x with rs:=a} p);omega);have ak:E<=1000000:=cA;have al:bm<r.heap.size:=(by have:=(z.dc.nd n).lt;rwa[t.out] at this);clear z M s Z a0 O g1 g2 g3 g4 g5 d2 d1;go_wp2_with fail;have a2:Hid (b∈a[m].nd.kids):=Zh (by rw[<-EK.out];exact BF.resolve_left (by simpa using hq));refine zA (oM a[m].nd.kids b N E F r ai ak a2 aj) ?_;have BZ:Hid (b≠0):=Zh (by simpa using hq);go_wp2_with fail;refine(LW a[m].nd.kids i (ZD a[m].nd.kids b) (B:=B) (vb:=r.heap.size) (v:=.slice N E F) (r.alloc (.cells #[aA i] 3)) (Qm _ _) ah AA (OW.alloc _) (heap_alloc_new r _) (fun e=>by have:=(OW.lt e).2;omega)).mono ?_;rintro e P ⟨A7,n7,c7,rfl,o7,b7,a3⟩;have O7:Hid (kI.Own P B (.slice A7 n7 c7) (ED i b a[m].nd.kids)):=Zh (by rw[Na i a2.out ND.out BZ.out] at o7;exact o7);have B7:Hid (gA (fun g=>a[m].vk.val.ownBlock=some g) r P):=Zh (by rw[V6.out];exact gA.trans (gA.alloc (gA.refl (fun g=>(Value.slice N E F).ownBlock=some g) r) _) b7 (fun _ _ h=>h));have V7:Hid (∀g,(Value.slice A7 n7 c7).ownBlock=some g->a[m].vk.val.ownBlock=some g\/r.heap.size<=g):=Zh (by intro g hg;rw[V6.out];rcases a3 g hg with e|e;(exact .inl e);(simp at e;exact .inr cA));have k7:P.heap[bm]? = r.heap[bm]?:=B7.block _ al (fun e=>by
  obtain⟨d,hd⟩:=(HX.nd n).kids.ty e;have:=(HX.nd n).mA;rw[t.out] at this;exact RA hd this nA rfl)
 have e6:P.cell? (dA bm 6)=some (.slice N E F):=(World.cell?_of_block k7).trans d6;have f6:P.frozen? (dA bm 6)=false:=(by have h1:=(HX.nd n).mA;rw[t.out] at h1;have hb:=k7.trans h1;simp[World.frozen?,hb]);clear o7 b7 a3 d6 k7;go_wp2_with fail;obtain⟨o,a4,s,a5⟩:=g8 HX n a1 B7 O7 V7;have ap:Hid (a[m].b=bm):=t;have D2:Hid (oC r B p {x with rs:=a} {x with rs:=o} (P.setCell (dA bm 6) (.slice A7 n7 c7))):=Zh (by rw[<-t.out];exact a4);have L3:Hid (o.map (·.nd)=iB (QA x.l i) q (ZC (ED i b))):=Zh (by rw[<-L1.out];exact s);obtain⟨A,a6,a7⟩:=YP (a5.trans L2) hk;have a8:=Zh (a6.trans af);have C:=Zh (a7.trans ag);clear a4 s a5 a6 a7 e6 f6;generalize P.setCell (dA bm 6) (.slice A7 n7 c7)=W at D2|-;refine(VF (x:={x with rs:=o}) i W A a8 C D2.dc).mono ?_;rintro e w8 ⟨rfl,b8⟩;have D8:=Zh (D2.below b8);have H8:=Zh (D2.dc.below b8);obtain⟨pv,a9⟩:=qA (o[k].nd.par);have d1:w8.cell? (dA bk 1)=some (aA pv):=(by have:=(H8.nd A).c1;rw[C.out,a9] at this;exact this);have f1:w8.frozen? (dA bk 1)=false:=(by have:=(H8.nd A).frozen 1;rw[C.out] at this;exact this);clear b8 a9;go_wp2_with fail;go_ret;obtain⟨am,aa,an⟩:=m8 q H8 A a8;rw[C.out] at aa;refine⟨rfl,_,(DL.trans D8).trans aa,?_⟩;show D.mk (am.map (·.nd)) x.n x.R x.foc=D.mk (OC x.l i q b) x.n x.R x.foc;rw[an];show D.mk (iB (o.map (·.nd)) i (rD q)) _ _ _=_;rw[L3.out];rfl
theorem yn(i q b:Int)(w:World)(hwf:WF x.d)(h:Dc w B p x):fA 139 #[iA p,aA i,aA q,aA b] w (Made w B p x (UA (oD x.d i q b).1) (oD x.d i q b).2):=by
 have E:∀c:Int,c≠0->tC x.l i q b=c->∀e w',e=Ending.returned (.iface 56 (aA c))/\eA w w'->Made w B p x (UA (oD x.d i q b).1) (oD x.d i q b).2 e w':=by
  rintro c A d e w' ⟨rfl,f⟩;have t:oD x.d i q b=(c,x.d):=(by unfold oD;rw[if_neg (by rw[show x.d.l=x.l from rfl,d];exact A),show x.d.l=x.l from rfl,d]);rw[t];exact Made.same h f (by unfold UA;rw[if_neg A]) rfl
 cases hi:lA x.l i with
 |false=>exact(Vm i q b w hi h).mono (E 2 nA (by unfold tC;rw[if_pos (.inl hi)]))
 |true=>
 cases hp:lA x.l q with
 |false=>exact(Xm i q b w hi hp h).mono (E 2 nA (by unfold tC;rw[if_pos (.inr (.inl hp))]))
 |true=>
 have u:b≠0->lA x.l b=false->tC x.l i q b=2:=fun C f=>by unfold tC;rw[if_pos (.inr (.inr ⟨C,f⟩))]
 by_cases g:b≠0/\lA x.l b=false
 ·exact(Ym i q b w hi hp (by simpa using g.1) g.2 h).mono (E 2 nA (u g.1 g.2))
 have o:¬(lA x.l i=false\/lA x.l q=false\/b≠0/\lA x.l b=false):=(by rw[hi,hp];simpa using g);have j:b=0\/b≠0/\lA x.l b=true:=by
  by_cases e:b=0
  ·exact .inl e
  ·exact .inr ⟨e,by simpa[e] using g⟩
 by_cases k:i=1
 ·have d:tC x.l i q b=4:=(by unfold tC;rw[if_neg o,if_pos k]);rcases j with e|⟨e,f⟩
  ·exact(Zm i q b w hi hp (by simpa using e) (by simpa using k) h).mono (E 4 nA d)
  ·exact(en i q b w hi hp (by simpa using e) f (by simpa using k) h).mono (E 4 nA d)
 have a:(i==1)=false:=(by simpa using k);cases ht:(MA x.l q).toList.isEmpty with
 |true=>
  have d:tC x.l i q b=3:=(by unfold tC wB;rw[if_neg o,if_neg k,if_pos (by rw[List.isEmpty_iff] at ht;simp[ht])]);rcases j with e|⟨e,f⟩
  ·exact(zj i q b w hi hp (by simpa using e) a ht h).mono (E 3 nA d)
  ·exact(Aj i q b w hi hp (by simpa using e) f a ht h).mono (E 3 nA d)
 |false=>
 have v:¬(MA x.l q).toList=[]:=(by rw[<-List.isEmpty_iff,ht];simp);cases hv:P1.fC (MA x.l q).data.toList with
 |true=>
  have d:tC x.l i q b=3:=(by unfold tC wB;rw[if_neg o,if_neg k,if_pos (by rw[hv];simp)]);rcases j with e|⟨e,f⟩
  ·exact(Bj i q b w hi hp (by simpa using e) a ht hv h).mono (E 3 nA d)
  ·exact(Cj i q b w hi hp (by simpa using e) f a ht hv h).mono (E 3 nA d)
 |false=>
 have y:wB (MA x.l q)=false:=(by unfold wB;rw[hv];simpa using v);have z:¬wB (MA x.l q)=true:=(by rw[y];simp);by_cases m:b≠0/\(yA x.l b≠q\/b=i)
 ·have d:tC x.l i q b=1:=(by unfold tC;rw[if_neg o,if_neg k,if_neg z,if_pos m]);obtain⟨e,f⟩:=j.resolve_left m.1;by_cases n:b=i
  ·exact(Dj i q b w hi hp (by simpa using e) f a ht hv (by simpa using n) h).mono (E 1 nA d)
  ·exact(Ej i q b w hi hp (by simpa using e) f a ht hv (by simpa using n) (by simpa using m.2.resolve_right n) h).mono (E 1 nA d)
 have r:b=0\/b≠0/\lA x.l b=true/\(b==i)=false/\(yA x.l b != q)=false:=by
  rcases j with e|⟨e,f⟩
  ·exact .inl e
  ·refine .inr ⟨e,f,?_,?_⟩
   ·simp only[not_and,not_or] at m;simpa using (m e).2
   ·simp only[not_and,not_or] at m;simpa using (m e).1
 cases hin:inside x.l q i with
 |true=>
  have d:tC x.l i q b=5:=(by unfold tC;rw[if_neg o,if_neg k,if_neg z,if_neg m,if_pos hin]);rcases r with e|⟨e,f,e2,e3⟩
  ·exact(kn i q b w hi hp (by simpa using e) a ht hv hwf hin h).mono (E 5 nA d)
  ·exact(mn i q b w hi hp (by simpa using e) f e2 e3 a ht hv hwf hin h).mono (E 5 nA d)
 |false=>
 have d:tC x.l i q b=0:=(by unfold tC;rw[if_neg o,if_neg k,if_neg z,if_neg m,if_neg (by rw[hin];simp)]);have s:=JK d;have t:oD x.d i q b=(0,{x.d with l:=OC x.l i q b}):=if_pos (show tC x.d.l i q b=0 from d);rw[t];rcases r with e|⟨e,f,e2,e3⟩
 ·exact tn i q b w hi hp (by simpa using e) a ht hv hwf hin s h
 ·exact xn i q b w hi hp (by simpa using e) f e2 e3 a ht hv hwf hin s h
variable{B p:Nat}{x:Dx}
theorem lD{w:World}{o:Obj}{g:Nat}(h:g=w.heap.size):(w.alloc o).heap[g]? = some o:=by subst h;exact heap_alloc_new w o
theorem heap_drew{w:World}{o:Obj}{g:Nat}(h:w.heap[g]? = some o):w.drew.heap[g]? = some o:=h
theorem zn{w w2 w3:World}{g:Nat}{v' vi':Value}{tag txt key:wA}(h:Dc w B p x)
 (hb2:gA (eF x.a x.v) w w2) (hg:w2.heap[g]? = some (.cells #[aA (x.n+1),aA 0,bA tag,bA txt,bA key,vA,vA,aA 0] 53 (0,0))) (hgw:B<=g) (hfr:∀k,UC p x k->k≠g) (hgl:¬eF x.a x.v g)
 (ar:SC w2 B x.a x.R (x.n+1) v' (x.rs.map eC++[⟨x.n+1,g⟩])) (hv:∀k,v'.ownBlock=some k->x.v.ownBlock=some k\/w.heap.size<=k)
 (hb3:gA (fun k=>x.vi.ownBlock=some k) w2 w3) (hids:kI.Own w3 B vi' (WA x.l++[x.n+1])) (hvi:∀k,vi'.ownBlock=some k->x.vi.ownBlock=some k\/w2.heap.size<=k):
 ∃x',Dc (w3.setCell (dA p 1) vi') B p x'/\gA (UC p x) w (w3.setCell (dA p 1) vi')/\(∀k,UC p x' k->UC p x k\/k=g\/w.heap.size<=k)/\x'.d = {x.d with l:=x.d.l++[GC (x.n+1) tag txt key],n:=x.n+1}:=by
 have C:¬eF x.a x.v p:=by
  rintro(e|e)
  ·exact RA h.mA h.ar.mA nA e
  ·obtain⟨d,i⟩:=h.ar.own.ty e;exact RA h.mA i nA rfl
 have o:∀k,x.vi.ownBlock=some k->¬eF x.a x.v k:=fun k b=>by
  obtain⟨d,i⟩:=h.ids.ty b;exact h.ar.other i nA nA
 have j:w2.heap[p]? = _:=(hb2.block p (FA h.mA) C).trans h.mA;have t:x.vi.ownBlock≠some p:=fun e=>by
  obtain⟨d,i⟩:=h.ids.ty e;exact RA i h.mA nA rfl
 have u:w3.heap[p]? = _:=(hb3.block p (FA j) t).trans j;have v:gA (fun k=>eF x.a x.v k\/x.vi.ownBlock=some k) w w3:=(hb2.mono fun _ _ h=> .inl h).trans hb3 fun _ _ h=> .inr h
 have m:gA (fun k=>k=p\/eF x.a x.v k\/x.vi.ownBlock=some k) w (w3.setCell (dA p 1) vi'):=gA.setCell (v.mono fun _ _ h=> .inr h) (fun _=> .inl rfl) _;have I:∀k,(k=p\/eF x.a x.v k\/x.vi.ownBlock=some k)->UC p x k:=by
  rintro k (e|(e|e)|e)
  ·exact .inl e
  ·exact .inr (.inl e)
  ·exact .inr (.inr (.inl e))
  ·exact .inr (.inr (.inr (.inl e)))
 have J:w.heap.size<=w2.heap.size:=hb2.size;have E:g≠p:=RA hg j nA;have y:x.vi.ownBlock≠some g:=fun e=>hfr g (.inr (.inr (.inr (.inl e)))) rfl
 have F:(w3.setCell (dA p 1) vi').heap[g]? = some (.cells #[aA (x.n+1),aA 0,bA tag,bA txt,bA key,vA,vA,aA 0] 53 (0,0)):=(Below.heap_setCell _ _ _ _ E).trans ((hb3.block g (FA hg) y).trans hg);have G:cF (w3.setCell (dA p 1) vi') B ⟨g,⟨none,0,0⟩,⟨none,0,0⟩,GC (x.n+1) tag txt key⟩:=⟨F,hgw,nB.yI _,Kind.Own.nil _ _ _⟩;have L:∀r∈x.rs,cF (w3.setCell (dA p 1) vi') B r:=by
  intro r a;have q:=h.nodes r a;refine q.sB (m.block _ q.lt ?_) (fun k b=>?_) (q.mB.but m (fun k c f b=>h.eD k c f (I k b)))
  ·rintro(e|e|e)
   ·exact RA q.mA (e▸h.mA) nA rfl
   ·exact h.ar.other q.mA nA nA e
   ·obtain⟨d,i⟩:=h.ids.ty e;exact RA q.mA i nA rfl
  ·obtain⟨c,H⟩:=q.kids.ty b;refine m.block _ (FA H) ?_;rintro(e|e|e)
   ·exact RA H (e▸h.mA) nA rfl
   ·exact h.ar.other H nA nA e
   ·exact h.RJ r a k e b
 refine⟨⟨x.a,v',vi',x.R,x.n+1,x.foc,x.rs++[⟨g,⟨none,0,0⟩,⟨none,0,0⟩,GC (x.n+1) tag txt key⟩]⟩,⟨?_,h.base,?_,?_,?_,?_,?_⟩,m.mono fun k _ b=>I k b,?_,?_⟩
 ·exact heap_set u 1 _
 ·show SC _ _ _ _ _ _ ((x.rs++[_]).map eC);rw[List.map_append];have z:gA (fun k=>k=p\/x.vi.ownBlock=some k) w2 (w3.setCell (dA p 1) vi'):=gA.setCell (hb3.mono fun _ _ h=> .inr h) (fun _=> .inl rfl) _;refine ar.but z ?_ (fun k b=>?_)
  ·rintro(e|e)
   ·exact RA h.ar.mA h.mA nA e
   ·exact o _ e (.inl rfl)
  ·obtain⟨d,i⟩:=ar.own.ty b;rintro(rfl|e)
   ·exact RA i j nA rfl
   ·obtain⟨M,A⟩:=h.ids.ty e;exact RA i ((hb2.block k (FA A) (o k e)).trans A) nA rfl
 ·show kI.Own _ B vi' (WA ((x.rs++[_]).map Rw.nd));have e:WA ((x.rs++[(⟨g,⟨none,0,0⟩,⟨none,0,0⟩,GC (x.n+1) tag txt key⟩:Rw)]).map Rw.nd)=WA x.l++[x.n+1]:=(by simp[WA,Dx.l,GC]);rw[e];refine hids.sB fun k b=>Below.heap_setCell _ _ _ _ ?_
  rintro rfl;obtain⟨d,i⟩:=hids.ty b;exact RA i u nA rfl
 ·intro r a;rcases List.mem_append.1 a with a|a
  ·exact L r a
  ·rw[List.mem_singleton] at a;subst a;exact G
 ·intro r a;rcases List.mem_append.1 a with a|a
  ·intro k b e;rcases hvi k b with e2|e2
   ·exact h.RJ r a k e2 e
   ·have:=((h.nodes r a).kids.lt e).2;omega
  ·rw[List.mem_singleton] at a;subst a;intro k _ e;cases e
 ·refine List.pairwise_append.2 ⟨h.pw,List.pairwise_singleton _ _,fun r a s K=>?_⟩;rw[List.mem_singleton] at K;subst K;exact⟨fun e=>hfr r.b (.inr (.inr (.inr (.inr ⟨r,a,.inl rfl⟩)))) e,fun k _ e=>by cases e⟩
 ·intro k b;rcases b with e|e|e|e|⟨r,a,e⟩
  ·exact .inl (.inl e)
  ·exact .inl (.inr (.inl e))
  ·rcases hv k e with e2|e2
   ·exact .inl (.inr (.inr (.inl e2)))
   ·exact .inr (.inr e2)
  ·rcases hvi k e with e2|e2
   ·exact .inl (.inr (.inr (.inr (.inl e2))))
   ·exact .inr (.inr cA)
  ·rcases List.mem_append.1 a with a|a
   ·exact .inl (.inr (.inr (.inr (.inr ⟨r,a,e⟩))))
   ·rw[List.mem_singleton] at a;subst a;rcases e with e|e
    ·exact .inr (.inl e)
    ·cases e
 ·show D.mk ((x.rs++[_]).map Rw.nd) _ _ _=D.mk _ _ _ _;rw[List.map_append];rfl
theorem Gj(i:Int)(tag txt key:wA)(w:World)(hn:x.n<=100000)(hl:x.rs.length=x.R)(h:Dc w B p x):fA 43 #[iA p,.agg #[aA i,aA 0,bA tag,bA txt,bA key,vA,vA,aA 0]] w fun e w'=>e= .returned (.iface 56 (aA 6))/\eA w w':=by
 have l:=FF;have H:=Zh h;have d:=Zh hl;have m:=h.c0;have f:=h.lt (.inl rfl:UC p x p);have g:=Zh (h.alloc (.cells #[aA i,aA 0,bA tag,bA txt,bA key,vA,vA,aA 0] 53));clear h hl;go_enter func43,ntmps43;go_wp2_with fail;refine zA (sH _ hn rfl g) ?_;go_wp2_with fail;have a:eA w (w.alloc (.cells #[aA (x.n+1),aA 0,bA tag,bA txt,bA key,vA,vA,aA 0] 53)):=Zb _ _;have b:=Zh a;have j:=Zh (H.below a);clear a;refine(ug w.heap.size _ (by simp[d.out]) j.ar).mono ?_;rintro e n ⟨rfl,c⟩;have k:=Zh (b.trans (c.mono b.size));clear c;go_wp2_with fail;go_ret;exact⟨rfl,k⟩
def Db(w:World)(B p:Nat)(x:Dx)(tag txt key:wA)(e:Ending)(w':World):Prop:=Made w B p x .nilIface {x.d with l:=x.d.l++[GC (x.n+1) tag txt key],n:=x.n+1} e w'
theorem p8(i:Int)(tag txt key:wA)(w:World)(hn:x.n<=100000)(hl:x.rs.length<x.R)(h:Dc w B p x):fA 43 #[iA p,.agg #[aA i,aA 0,bA tag,bA txt,bA key,vA,vA,aA 0]] w (Db w B p x tag txt key):=by
 have q1:=TF;have H:=Zh h;have T:=Zh hl;have Z:=h.c0;have a0:=h.lt (.inl rfl:UC p x p);have H1:=Zh (h.alloc (.cells #[aA i,aA 0,bA tag,bA txt,bA key,vA,vA,aA 0] 53));have hR:=h.ar.room;clear h hl;go_enter func43,ntmps43;go_wp2_with fail;refine zA (sH _ hn rfl H1) ?_;go_wp2_with fail;have K:eA w (w.alloc (.cells #[aA (x.n+1),aA 0,bA tag,bA txt,bA key,vA,vA,aA 0] 53)):=Zb _ _;have L:=Zh K;have j:=Zh (H.below K);have G:Hid ((w.alloc (.cells #[aA (x.n+1),aA 0,bA tag,bA txt,bA key,vA,vA,aA 0] 53)).heap[w.heap.size]? = some (.cells #[aA (x.n+1),aA 0,bA tag,bA txt,bA key,vA,vA,aA 0] 53 (0,0))):=Zh (heap_alloc_new w _);clear K;generalize w.alloc (.cells #[aA (x.n+1),aA 0,bA tag,bA txt,bA key,vA,vA,aA 0] 53)=W at L j G|-;refine(mj w.heap.size W (by simpa using T.out) hn j.ar).mono ?_;rintro e a ⟨rfl,v',U,z,C⟩;have M:w.heap.size<W.heap.size:=FA G;have V:Hid (¬eF x.a x.v w.heap.size):=Zh (j.ar.other G nA nA);have D:¬eF x.a x.v p:=by
  have hb:=j.mA;exact j.ar.other hb nA nA
 have A3:=Zh U;have B3:=Zh z;have V3:=Zh C;have y:a.heap[p]? = _:=(z.block p (FA j.mA) D).trans j.mA;have K3:=Zh y;have I:Hid (a.heap[w.heap.size]? = _):=Zh ((z.block _ M V).trans G);have J:Hid (kI.Own a B x.vi (WA x.l)):=Zh (j.ids.but z (fun g N=>by
  obtain⟨d,hd⟩:=j.ids.ty N;exact j.ar.other hd nA nA))
 have d1:=IA 1 y;have e0:=IA 0 I;have d0:=IA 0 y;have X:p<a.heap.size:=FA y;have a1:B<=a.heap.size:=(uA H.base);obtain⟨r,s,t,f,_⟩:=J.slice;have u:=Zh f;rw[f] at d1;have a2:(WA x.l).length+1<=1000:=(by simp[WA,Dx.l];have:=T.out;omega);have O:Hid (some p≠(Value.slice r s t).ownBlock):=Zh (by rw[<-f];exact pQ J y nA);have a4:Hid (some w.heap.size≠(Value.slice r s t).ownBlock):=Zh (by rw[<-f];exact pQ J I nA);have J3:Hid (kI.Own a B (.slice r s t) (WA x.l)):=Zh (by rw[<-f];exact J);have Y:w.heap.size<a.heap.size:=FA I;clear U z C y Z D f;go_wp2_with fail
 go_region_law (refine kI.tG rfl (.tmp 25) (.tmp 28) rfl (v:=.slice r s t) (l:=WA x.l) (m:=[x.n+1]) (B:=B) (A:=some ⟨a.heap.size,0,none⟩) (n:=1) (c:=1) (by simp[Act.eval,Act.put]) (by repeat (first|exact J3|refine Kind.Own.alloc ?_ _|refine Kind.Own.drew ?_)) (by simp[Act.eval,Act.put]) rfl RB (Kind.pA.lit (by first|exact heap_drew (lD rfl)|exact lD rfl) rfl) AA AA ?_;intro v4 w4 o b E;obtain⟨A4,n4,c4,rfl,_,_,_,_,_⟩:=o.slice;have P:w4.heap[p]? = some (.cells #[iA x.a,x.vi,aA x.foc] 69 (0,0)):=(b.block p AA O).trans (by exact oB K3);have e1:w4.cell? (dA p 1)=some (.slice r s t):=(cell_of_row w4 p 1 _ _ (0,0) P).trans (by rw[u.out];rfl);have f1:w4.frozen? (dA p 1)=false:=(by simp[World.frozen?,P]);have O4:=Zh o;have G4:=Zh b;have Q:=Zh E;clear o b E P)
 all_goals
  go_wp2_with fail;go_ret;have R:gA (fun k=>x.vi.ownBlock=some k) a w4:=by
   rw[u.out];refine gA.trans (S:=fun k=>(Value.slice r s t).ownBlock=some k) ?_ (gA.sG (S:=fun k=>(Value.slice r s t).ownBlock=some k) G4 (fun g N _=>N)) (fun _ _ h=>h)
   repeat (first|exact gA.refl _ _|refine gA.drew ?_|refine gA.alloc ?_ _)
  have F:∀k,(Value.slice A4 n4 c4).ownBlock=some k->x.vi.ownBlock=some k\/a.heap.size<=k:=by
   intro k q;rcases Q with e|e
   ·rw[e,<-u.out] at q;exact .inl q
   ·rw[e] at q;simp at q;exact .inr cA
  obtain⟨x',h1,h2,h3,h4⟩:=zn j B3 I (uA H.base) (fun k q=>by have:=H.lt q;omega) V A3 V3 R O4 F;refine⟨rfl,x',⟨h1,(gA.tB L _).trans h2 (fun _ _ h=>h),fun k q=>?_⟩,h4⟩;have:=L.size;rcases h3 k q with e|e|e
  ·exact .inl e
  ·exact .inr cA
  ·exact .inr cA
variable{B p:Nat}{x:Dx}
theorem pM(s:wA):s.toList.isEmpty=true↔s.toList=[]:=List.isEmpty_iff
theorem Ed(tag txt key:wA)(w:World)(h1:tag.size<=maxLen)(h2:txt.size<=maxLen)(h3:key.size<=maxLen):
 fA 165 #[bA tag,bA txt,bA key] w fun e w'=>e= .returned (.bool (wC tag txt key))/\w=w':=by
 cases ht:tag.toList.isEmpty with
 |true=>
  have a:=(pM tag).1 ht;cases hx:P1.YB txt.data.toList with
  |false=>
   have b:Hid (wC tag txt key=false):=Zh (by unfold wC;rw[if_pos a,hx];rfl);have c:=Zh hx;clear hx a;go_enter func165,ntmps165;go_wp2_with fail;refine zA (P3.rH txt w c h2) ?_;go_wp2_with fail;go_ret;exact⟨MB b.symm,rfl⟩
  |true=>
   cases hk:key.toList.isEmpty with
   |false=>
    have b:Hid (wC tag txt key=false):=Zh (by unfold wC;rw[if_pos a,hx];simpa using (fun e=>by rw[<-pM,hk] at e;cases e));have c:=Zh hx;clear hx a;go_enter func165,ntmps165;go_wp2_with fail;refine zA (P3.rH txt w c h2) ?_;go_wp2_with fail;go_ret;exact⟨MB b.symm,rfl⟩
   |true=>
    have b:Hid (wC tag txt key=true):=Zh (by unfold wC;rw[if_pos a,hx];simpa using (pM key).1 hk);have c:=Zh hx;clear hx a;go_enter func165,ntmps165;go_wp2_with fail;refine zA (P3.rH txt w c h2) ?_;go_wp2_with fail;go_ret;exact⟨MB b.symm,rfl⟩
 |false=>
  have a:¬tag.toList=[]:=(by rw[<-pM,ht];simp);cases hn:P1.NC tag.data.toList with
  |false=>
   have b:Hid (wC tag txt key=false):=Zh (by unfold wC;rw[if_neg a,hn];rfl);have c:=Zh hn;clear hn a;go_enter func165,ntmps165;go_wp2_with fail;refine zA (P3.vJ tag w c h1) ?_;go_wp2_with fail;go_ret;exact⟨MB b.symm,rfl⟩
  |true=>
   cases hk:P1.YB key.data.toList with
   |false=>
    have b:Hid (wC tag txt key=false):=Zh (by unfold wC;rw[if_neg a,hn,hk];rfl);have c:=Zh hn;have d:=Zh hk;clear hn a hk;go_enter func165,ntmps165;go_wp2_with fail;refine zA (P3.vJ tag w c h1) ?_;go_wp2_with fail;refine zA (P3.rH key w d h3) ?_;go_wp2_with fail;go_ret;exact⟨MB b.symm,rfl⟩
   |true=>
    cases hx:txt.toList.isEmpty with
    |false=>
     have b:Hid (wC tag txt key=false):=Zh (by unfold wC;rw[if_neg a,hn,hk];simpa using (fun e=>by rw[<-pM,hx] at e;cases e));have c:=Zh hn;have d:=Zh hk;clear hn a hk;go_enter func165,ntmps165;go_wp2_with fail;refine zA (P3.vJ tag w c h1) ?_;go_wp2_with fail;refine zA (P3.rH key w d h3) ?_;go_wp2_with fail;go_ret;exact⟨MB b.symm,rfl⟩
    |true=>
     have b:Hid (wC tag txt key=true):=Zh (by unfold wC;rw[if_neg a,hn,hk];simpa using (pM txt).1 hx);have c:=Zh hn;have d:=Zh hk;clear hn a hk;go_enter func165,ntmps165;go_wp2_with fail;refine zA (P3.vJ tag w c h1) ?_;go_wp2_with fail;refine zA (P3.rH key w d h3) ?_;go_wp2_with fail;go_ret;exact⟨MB b.symm,rfl⟩
theorem sS(tag txt key:wA){r:Bool}(w:World)(hr:wC tag txt key=r)(h1:tag.size<=maxLen)(h2:txt.size<=maxLen)(h3:key.size<=maxLen):
 fA 165 #[bA tag,bA txt,bA key] w fun e w'=>e= .returned (.bool r)/\w=w':=by
 subst hr;exact Ed tag txt key w h1 h2 h3
theorem Cg(op i pa be:Int)(tag txt key:wA)(A:jA)(n c:Nat)(w:World)(hn:x.n<=100000)(hi:(i != x.n+1)=true)(h:Dc w B p x):fA 138 #[iA p,.agg #[aA op,aA i,aA pa,aA be,bA tag,bA txt,bA key,.slice A n c]] w fun e w'=>e= .returned (.iface 56 (aA 1))/\eA w w':=by
 have H:=Zh h;have a:=Zh (h.alloc (.cells #[aA op,aA i,aA pa,aA be,bA tag,bA txt,bA key,.slice A n c] 87));have b:Hid (∀k,fA 38 #[iA p] ((w.alloc (.cells #[aA op,aA i,aA pa,aA be,bA tag,bA txt,bA key,.slice A n c] 87)).drewN k) fun e w'=>e= .returned (aA (x.n+1))/\∃m,w'=(w.alloc (.cells #[aA op,aA i,aA pa,aA be,bA tag,bA txt,bA key,.slice A n c] 87)).drewN m):=
  Zh (fun k=>(sH _ hn rfl (a.drewN k)).mono fun _ _ ⟨he,hw⟩=>⟨he,k,hw.symm⟩)
 clear h;go_enter func138,ntmps138;go_wp2_with fail;go_quiet ((go_at_call 38;exact b _));go_wp2_with fail;go_ret;exact⟨rfl,PA (Zb _ _) _⟩
theorem He(op i pa be:Int)(tag txt key:wA)(A:jA)(n c:Nat)(w:World)(hn:x.n<=100000)(h1:tag.size<=maxLen)(h2:txt.size<=maxLen)(h3:key.size<=maxLen)(hi:(i != x.n+1)=false)(hm:wC tag txt key=false)(h:Dc w B p x):fA 138 #[iA p,.agg #[aA op,aA i,aA pa,aA be,bA tag,bA txt,bA key,.slice A n c]] w fun e w'=>e= .returned (.iface 56 (aA 1))/\eA w w':=by
 have H:=Zh h;have a:=Zh (h.alloc (.cells #[aA op,aA i,aA pa,aA be,bA tag,bA txt,bA key,.slice A n c] 87));have b:Hid (∀k,fA 38 #[iA p] ((w.alloc (.cells #[aA op,aA i,aA pa,aA be,bA tag,bA txt,bA key,.slice A n c] 87)).drewN k) fun e w'=>e= .returned (aA (x.n+1))/\∃m,w'=(w.alloc (.cells #[aA op,aA i,aA pa,aA be,bA tag,bA txt,bA key,.slice A n c] 87)).drewN m):=
  Zh (fun k=>(sH _ hn rfl (a.drewN k)).mono fun _ _ ⟨he,hw⟩=>⟨he,k,hw.symm⟩)
 have d:Hid (∀k,fA 165 #[bA tag,bA txt,bA key] ((w.alloc (.cells #[aA op,aA i,aA pa,aA be,bA tag,bA txt,bA key,.slice A n c] 87)).drewN k) fun e w'=>e= .returned (.bool false)/\∃m,w'=(w.alloc (.cells #[aA op,aA i,aA pa,aA be,bA tag,bA txt,bA key,.slice A n c] 87)).drewN m):=
  Zh (fun k=>(sS tag txt key _ hm h1 h2 h3).mono fun _ _ ⟨he,hw⟩=>⟨he,k,hw.symm⟩)
 clear h hm;go_enter func138,ntmps138;go_wp2_with fail;go_quiet ((first|(go_at_call 38;exact b _)|(go_at_call 165;exact d _)));go_wp2_with fail;go_ret;exact⟨rfl,PA (Zb _ _) _⟩
theorem Gd(op i pa be:Int)(tag txt key:wA)(A:jA)(n c:Nat)(w:World)(hn:x.n<=100000)(h1:tag.size<=maxLen)(h2:txt.size<=maxLen)(h3:key.size<=maxLen)(hi:(i != x.n+1)=false)(hm:wC tag txt key=true)(hl:x.rs.length=x.R)(h:Dc w B p x):fA 138 #[iA p,.agg #[aA op,aA i,aA pa,aA be,bA tag,bA txt,bA key,.slice A n c]] w fun e w'=>e= .returned (.iface 56 (aA 6))/\eA w w':=by
 have H:=Zh h;have a:=Zh (h.alloc (.cells #[aA op,aA i,aA pa,aA be,bA tag,bA txt,bA key,.slice A n c] 87));have d:Hid (∀k,fA 38 #[iA p] ((w.alloc (.cells #[aA op,aA i,aA pa,aA be,bA tag,bA txt,bA key,.slice A n c] 87)).drewN k) fun e w'=>e= .returned (aA (x.n+1))/\∃m,w'=(w.alloc (.cells #[aA op,aA i,aA pa,aA be,bA tag,bA txt,bA key,.slice A n c] 87)).drewN m):=
  Zh (fun k=>(sH _ hn rfl (a.drewN k)).mono fun _ _ ⟨he,hw⟩=>⟨he,k,hw.symm⟩)
 have f:Hid (∀k,fA 165 #[bA tag,bA txt,bA key] ((w.alloc (.cells #[aA op,aA i,aA pa,aA be,bA tag,bA txt,bA key,.slice A n c] 87)).drewN k) fun e w'=>e= .returned (.bool true)/\∃m,w'=(w.alloc (.cells #[aA op,aA i,aA pa,aA be,bA tag,bA txt,bA key,.slice A n c] 87)).drewN m):=
  Zh (fun k=>(sS tag txt key _ hm h1 h2 h3).mono fun _ _ ⟨he,hw⟩=>⟨he,k,hw.symm⟩)
 have g:=Zh hl;clear h hm hl;go_enter func138,ntmps138;go_wp2_with fail;go_quiet ((first|(go_at_call 38;exact d _)|(go_at_call 165;exact f _)));go_wp2_with fail;refine(Gj 0 tag txt key _ hn g (a.drewN _)).mono ?_;rintro e l ⟨rfl,b⟩;have j:=Zh ((PA ((Below.refl _ w).alloc Zl _) _).trans (b.mono (by show w.heap.size<=(w.alloc _).heap.size;simp)));clear b;go_wp2_with fail;go_ret;exact⟨rfl,j⟩
theorem Ie(op i pa be:Int)(tag txt key:wA)(A:jA)(n c:Nat)(w:World)(hn:x.n<=100000)(h1:tag.size<=maxLen)(h2:txt.size<=maxLen)(h3:key.size<=maxLen)(hi:(i != x.n+1)=false)(hm:wC tag txt key=true)(hl:x.rs.length<x.R)(h:Dc w B p x):fA 138 #[iA p,.agg #[aA op,aA i,aA pa,aA be,bA tag,bA txt,bA key,.slice A n c]] w (Db w B p x tag txt key):=by
 have H:=Zh h;have d:=Zh (h.alloc (.cells #[aA op,aA i,aA pa,aA be,bA tag,bA txt,bA key,.slice A n c] 87));have g:Hid (∀k,fA 38 #[iA p] ((w.alloc (.cells #[aA op,aA i,aA pa,aA be,bA tag,bA txt,bA key,.slice A n c] 87)).drewN k) fun e w'=>e= .returned (aA (x.n+1))/\∃m,w'=(w.alloc (.cells #[aA op,aA i,aA pa,aA be,bA tag,bA txt,bA key,.slice A n c] 87)).drewN m):=
  Zh (fun k=>(sH _ hn rfl (d.drewN k)).mono fun _ _ ⟨he,hw⟩=>⟨he,k,hw.symm⟩)
 have j:Hid (∀k,fA 165 #[bA tag,bA txt,bA key] ((w.alloc (.cells #[aA op,aA i,aA pa,aA be,bA tag,bA txt,bA key,.slice A n c] 87)).drewN k) fun e w'=>e= .returned (.bool true)/\∃m,w'=(w.alloc (.cells #[aA op,aA i,aA pa,aA be,bA tag,bA txt,bA key,.slice A n c] 87)).drewN m):=
  Zh (fun k=>(sS tag txt key _ hm h1 h2 h3).mono fun _ _ ⟨he,hw⟩=>⟨he,k,hw.symm⟩)
 have l:=Zh hl;clear h hm hl;go_enter func138,ntmps138;go_wp2_with fail;go_quiet ((first|(go_at_call 38;exact g _)|(go_at_call 165;exact j _)));go_wp2_with fail;refine(p8 0 tag txt key _ hn l (d.drewN _)).mono ?_;rintro e r ⟨rfl,o,f,a⟩;have q:=Zh f;have b:=Zh a;clear f a;go_wp2_with fail;go_ret;exact⟨rfl,o,(oC.sC H (PA ((Below.refl _ w).alloc Zl _) _)).trans q,b⟩
theorem Je(r:Rc)(A:jA)(n c:Nat)(w:World)(hn:x.n<=100000)(h1:r.tag.size<=maxLen)(h2:r.txt.size<=maxLen)(h3:r.key.size<=maxLen)(hR:x.rs.length<=x.R)(h:Dc w B p x):
 fA 138 #[iA p,.agg (JA r A n c)] w (Made w B p x (UA (jD x.d r).1) (jD x.d r).2):=by
 have b:x.d.l.length=x.rs.length:=EJ x;by_cases f:r.id=x.n+1
 ·have a:(r.id != x.n+1)=false:=(by simpa using f);cases hm:wC r.tag r.txt r.key with
  |false=>
   have d:jD x.d r=(1,x.d):=(by unfold jD;exact if_pos (.inr hm));rw[d];refine(He r.op r.id r.par r.rA r.tag r.txt r.key A n c w hn h1 h2 h3 a hm h).mono ?_;rintro e w' ⟨rfl,g⟩;exact Made.same h g rfl rfl
  |true=>
   have i:¬(r.id≠x.d.n+1\/wC r.tag r.txt r.key=false):=by
    rintro(e|e)
    ·exact e f
    ·rw[hm] at e;cases e
   by_cases j:x.R<=x.rs.length
   ·have d:jD x.d r=(6,x.d):=(by unfold jD;rw[if_neg i];exact if_pos (by rw[b];exact j));rw[d];refine(Gd r.op r.id r.par r.rA r.tag r.txt r.key A n c w hn h1 h2 h3 a hm cA h).mono ?_;rintro e w' ⟨rfl,g⟩;exact Made.same h g rfl rfl
   ·have d:jD x.d r=(0,{x.d with l:=x.d.l++[GC (x.n+1) r.tag r.txt r.key],n:=x.n+1}):=by
     unfold jD;rw[if_neg i,if_neg (by rw[b];exact j),f];rfl
    rw[d];exact Ie r.op r.id r.par r.rA r.tag r.txt r.key A n c w hn h1 h2 h3 a hm cA h
 ·have a:(r.id != x.n+1)=true:=(by simpa using f);have d:jD x.d r=(1,x.d):=(by unfold jD;exact if_pos (.inl f));rw[d];refine(Cg r.op r.id r.par r.rA r.tag r.txt r.key A n c w hn a h).mono ?_;rintro e w' ⟨rfl,g⟩;exact Made.same h g rfl rfl
def Oa(w:World)(R:Nat)(e:Ending)(w':World):Prop:=
 ∃(p:Nat) (x:Dx),e= .returned (.tuple #[iA p,.nilIface])/\Dc w' w.heap.size p x/\x.d=ME R/\eA w w'
theorem eY(r:Int)(w:World)(h:r<1\/200<r):fA 16 #[aA r] w fun e w'=>e= .returned (.tuple #[.pointer none,.iface 56 (aA 1)])/\w=w':=by
 have a:=FF;go_enter func16,ntmps16;go_wp2_with fail;refine zA (Hm r w h) ?_;go_wp2_with fail;go_ret2;exact⟨rfl,rfl⟩
theorem NW(R:Nat)(w:World)(h1:1<=R)(h2:R<=200):fA 16 #[aA R] w (Oa w R):=by
 have q:=TF;go_enter func16,ntmps16;go_wp2_with fail;refine(kj (R:Int) w cA cA).mono ?_;rintro e c ⟨a,rfl,d,i⟩;rw[Int.toNat_natCast] at d;have n:=Zh d;have f:=Zh i;clear d i;go_wp2_with fail;have j:Dc (c.alloc (.cells #[iA a,vA,aA 0] 69)) w.heap.size c.heap.size ⟨a,vA,vA,R,0,0,[]⟩:=
  ⟨heap_alloc_new c _,f.size,n.below (Zb _ _) Zl,Kind.Own.nil _ _ _,fun _ h=>absurd h DA,fun _ h=>absurd h DA,List.Pairwise.nil⟩
 have k:=Zh j;have o:=Zh (f.alloc f.size (.cells #[iA a,vA,aA 0] 69));clear j;refine(p8 (x:=⟨a,vA,vA,R,0,0,[]⟩) 0 ⟨#[114,111,111,116]⟩ ⟨#[]⟩ ⟨#[]⟩ _ (by show(0:Int)<=100000;omega) (by show 0<R;omega) k).mono ?_;rintro e r ⟨rfl,p,l,b⟩;have m:=Zh l;have g:=Zh b;clear l b;go_wp2_with fail;go_ret2;exact⟨_,p,rfl,m.dc,g,o.trans (m.AB k)⟩
variable{B p:Nat}{x:Dx}
def uD(s:List Int)(rs:List Rw):List Rw:=rs.filter fun r=>!decide (r.nd.id∈s)
theorem y8(s:List Int)(rs:List Rw):(uD s rs).map (·.nd)=aH s (rs.map (·.nd)):=by
 unfold uD aH;rw[List.filter_map];rfl
theorem Dg(s t:List Int)(rs:List Rw):uD t (uD s rs)=uD (s++t) rs:=by
 unfold uD;rw[List.filter_filter];apply List.filter_congr;intro r _;by_cases a:r.nd.id∈s<;>by_cases b:r.nd.id∈t<;>simp[a,b]
theorem Hj(rs:List Rw):uD [] rs=rs:=by
 unfold uD;rw[List.filter_eq_self];intro r _;simp
theorem Ke{s t:List Int}(h:∀c,c∈s↔c∈t)(rs:List Rw):uD s rs=uD t rs:=by
 unfold uD;apply List.filter_congr;intro r _;simp[h]
theorem xZ{s:List Int}{rs:List Rw}{r:Rw}:r∈uD s rs↔r∈rs/\r.nd.id∉s:=by unfold uD;simp
def fo(f:Int)(s:List Int):Int:=if f∈s then 0 else f
theorem Ar(f:Int){s t:List Int}(h:(0:Int)∉t):fo (fo f s) t=fo f (s++t):=by
 unfold fo;by_cases a:f∈s
 ·rw[if_pos a,if_neg h,if_pos (by simp[a])]
 ·rw[if_neg a];by_cases b:f∈t
  ·rw[if_pos b,if_pos (by simp[b])]
  ·rw[if_neg b,if_neg (by simp[a,b])]
theorem gq(f:Int):fo f []=f:=by simp[fo]
theorem Ij{s t:List Int}(h:∀c,c∈s↔c∈t)(f:Int):fo f s=fo f t:=by
 unfold fo;by_cases a:f∈s
 ·rw[if_pos a,if_pos ((h f).1 a)]
 ·rw[if_neg a,if_neg (fun e=>a ((h f).2 e))]
theorem Eg(s:List Int)(l:List Nd)(y:Int)(h:y∉s):lA (aH s l) y=lA l y/\xA (aH s l) y=xA l y:=by
 unfold lA xA;rw[rJ,if_neg h];exact⟨rfl,rfl⟩
theorem fY{α β:Type}(f:α->β):∀(l:List α) (k:Nat),(l.map f).eraseIdx k=(l.eraseIdx k).map f
 |[],_=>rfl
 |_:: _,0=>rfl
 |a:: l,k+1=>by show f a:: (l.map f).eraseIdx k=f a:: (l.eraseIdx k).map f;rw[fY f l k]
theorem gY:∀{rs:List Rw} {k:Nat} (hk:k<rs.length),(rs.map (·.nd)).Pairwise (fun a b=>a.id<b.id)->rs.eraseIdx k=uD [rs[k].nd.id] rs
 |[],_,hk,_=>absurd hk DA
 |r:: rs,0,_,h=>by
  obtain⟨h1,_⟩:=List.pairwise_cons.1 h;show rs=uD [r.nd.id] (r:: rs);unfold uD;rw[List.filter_cons];simp only[List.mem_singleton,decide_true,Bool.not_true,Bool.false_eq_true,if_false];exact(List.filter_eq_self.2 (fun s hs=>by
   have:r.nd.id<s.nd.id:=h1 s.nd (List.mem_map.2 ⟨s,hs,rfl⟩);have hne:¬s.nd.id=r.nd.id:=cA;simp[hne])).symm
 |r:: rs,k+1,hk,h=>by
  obtain⟨h1,h2⟩:=List.pairwise_cons.1 h;have hk':k<rs.length:=(by simpa using hk);have ih:=gY hk' h2;have hne:¬r.nd.id=rs[k].nd.id:=by
   have:r.nd.id<rs[k].nd.id:=h1 rs[k].nd (List.mem_map.2 ⟨rs[k],List.getElem_mem hk',rfl⟩);omega
  show r:: rs.eraseIdx k=uD [rs[k].nd.id] (r:: rs);rw[ih];unfold uD;rw[List.filter_cons];simp[hne]
theorem Jj(i:Int)(rs:List Rw):less i (WA (rs.map (·.nd)))=WA ((uD [i] rs).map (·.nd)):=by
 unfold less WA uD;simp only[List.map_map,List.filter_map];congr 1;apply List.filter_congr;intro r _;simp[Function.comp]
theorem Kj{w w2 w3:World}{y:Dx}{i:Int}(h:Dc w B p y)(hi:lA y.l i=true){v':Value}{A3:jA}{n3 c3:Nat}
 (hb2:gA (eF y.a y.v) w w2) (ar:SC w2 B y.a y.R y.n v' ((y.rs.map eC).eraseIdx (oG (y.rs.map eC) i))) (hv:v'.ownBlock=y.v.ownBlock)
 (hb3:gA (fun k=>y.vi.ownBlock=some k) w2 w3) (hids:kI.Own w3 B (.slice A3 n3 c3) (less i (WA y.l))) (hvi:(Value.slice A3 n3 c3).ownBlock=y.vi.ownBlock):
 oC w B p y ⟨y.a,v',.slice A3 n3 c3,y.R,y.n,y.foc,uD [i] y.rs⟩ (w3.setCell (dA p 1) (.slice A3 n3 c3)):=by
 obtain⟨k,s,v,_⟩:=h.place hi;have j:oG (y.rs.map eC) i=k:=by
  have:=nU h.ar.VC (k:=k) (by simpa using s);simpa[eC,v] using this
 have t:¬eF y.a y.v p:=h.ar.other h.mA nA nA;have a:∀k,y.vi.ownBlock=some k->¬eF y.a y.v k:=fun k s=>by
  obtain⟨d,f⟩:=h.ids.ty s;exact h.ar.other f nA nA
 have b:w2.heap[p]? = _:=(hb2.block p (FA h.mA) t).trans h.mA;have l:y.vi.ownBlock≠some p:=fun e=>pQ h.ids h.mA nA e.symm
 have m:w3.heap[p]? = _:=(hb3.block p (FA b) l).trans b;have n:gA (fun k=>eF y.a y.v k\/y.vi.ownBlock=some k) w w3:=(hb2.mono fun _ _ h=> .inl h).trans hb3 fun _ _ h=> .inr h
 have u:gA (fun k=>k=p\/eF y.a y.v k\/y.vi.ownBlock=some k) w (w3.setCell (dA p 1) (.slice A3 n3 c3)):=gA.setCell (n.mono fun _ _ h=> .inr h) (fun _=> .inl rfl) _;have x:y.rs.eraseIdx k=uD [i] y.rs:=by
  have:=gY s h.VC;rw[v] at this;exact this
 refine h.re u (heap_set m 1 _) ?_ ?_ (fun g c=> .inl (by rw[<-hv];exact c)) (fun g c=> .inl (by rw[<-hvi];exact c)) (fun r z=> .inl (xZ.1 z).1) (h.pw.sublist List.filter_sublist)
 ·rw[j,fY,x] at ar;have o:gA (fun k=>k=p\/y.vi.ownBlock=some k) w2 (w3.setCell (dA p 1) (.slice A3 n3 c3)):=gA.setCell (hb3.mono fun _ _ h=> .inr h) (fun _=> .inl rfl) _;refine ar.but o ?_ (fun g c=>?_)
  ·rintro(e|e)
   ·exact RA h.ar.mA h.mA nA e
   ·exact a _ e (.inl rfl)
  ·obtain⟨d,f⟩:=ar.own.ty c;rintro(rfl|e)
   ·exact RA f b nA rfl
   ·obtain⟨A,q⟩:=h.ids.ty e;exact RA f ((hb2.block g (FA q) (a g e)).trans q) nA rfl
 ·rw[<-Jj];refine hids.sB fun g c=>Below.heap_setCell _ _ _ _ ?_
  rintro rfl;obtain⟨d,f⟩:=hids.ty c;exact RA f m nA rfl
structure GJ(l:List Nd)(K:Int->List Int)(f:Nat)(i:Int):Prop where
 hb:Hb K f i
 nd:(sub K f i).Nodup
 at_:∀c∈sub K f i,lA l c=true/\xA l c=K c
def upto(K:Int->List Int)(f:Nat)(i:Int)(j:Nat):List Int:=((K i).take j).flatMap (sub K f)
theorem hY{K:Int->List Int}{f:Nat}{i:Int}{j:Nat}(hj:j<(K i).length):upto K f i (j+1)=upto K f i j++sub K f (K i)[j]:=by
 unfold upto;rw[List.take_succ_eq_append_getElem hj,List.flatMap_append];simp
theorem yZ(K:Int->List Int)(f:Nat)(i:Int):upto K f i (K i).length=(K i).flatMap (sub K f):=by unfold upto;rw[List.take_length]
theorem GJ.lB{l:List Nd}{K:Int->List Int}{f:Nat}{i:Int}(h:GJ l K (f+1) i){j:Nat}(hj:j<(K i).length):GJ (aH (upto K f i j) l) K f (K i)[j]/\(∀c∈sub K f (K i)[j],c∉upto K f i j):=by
 have d:=h.nd;rw[sub,List.nodup_cons] at d;have a:(K i).flatMap (sub K f)=upto K f i j++(sub K f (K i)[j]++((K i).drop (j+1)).flatMap (sub K f)):=by
  unfold upto;have e:K i=(K i).take j++((K i)[j]:: (K i).drop (j+1)):=(by rw[<-List.drop_eq_getElem_cons hj,List.take_append_drop]);have:=congrArg (List.flatMap (sub K f)) e;rw[List.flatMap_append,List.flatMap_cons] at this;exact this
 rw[a,List.nodup_append,List.nodup_append] at d;have b:∀c∈sub K f (K i)[j],c∉upto K f i j:=fun c g m=>d.2.2.2 c m c (by simp[g]) rfl
 refine⟨⟨h.hb _ (List.getElem_mem hj),d.2.2.1.1,fun c g=>?_⟩,b⟩;have k:c∈sub K (f+1) i:=by
  rw[sub,List.mem_cons,List.mem_flatMap];exact .inr ⟨_,List.getElem_mem hj,g⟩
 obtain⟨n,o⟩:=Eg (upto K f i j) l c (b c g);rw[n,o];exact h.at_ c k
theorem GJ.Lj{l:List Nd}{K:Int->List Int}{f:Nat}{i:Int}(h:GJ l K (f+1) i)(j:Nat):i∉upto K f i j:=by
 intro a;have b:=h.nd;rw[sub,List.nodup_cons] at b;unfold upto at a;obtain⟨c,d,a⟩:=List.mem_flatMap.1 a;exact b.1 (List.mem_flatMap.2 ⟨c,List.mem_of_mem_take d,a⟩)
def E8(w:World)(B p:Nat)(x:Dx)(s:List Int)(e:Ending)(w':World):Prop:=
 e= .returned (.tuple #[])/\∃v vi,oC w B p x ⟨x.a,v,vi,x.R,x.n,fo x.foc s,uD s x.rs⟩ w'
def sI(w:World)(B p:Nat)(x:Dx)(s:List Int)(w':World):Prop:=∃v vi,oC w B p x ⟨x.a,v,vi,x.R,x.n,fo x.foc s,uD s x.rs⟩ w'
theorem sI.zero{w w':World}(h:Dc w B p x)(hb:eA w w'):sI w B p x [] w':=⟨x.v,x.vi,by
 rw[gq,Hj];exact oC.sC h hb⟩
theorem sI.next{w w' w2:World}{s t:List Int}{v vi:Value}(h:oC w B p x ⟨x.a,v,vi,x.R,x.n,fo x.foc s,uD s x.rs⟩ w')(ht:(0:Int)∉t)
 (k:sI w' B p ⟨x.a,v,vi,x.R,x.n,fo x.foc s,uD s x.rs⟩ t w2):sI w B p x (s++t) w2:=by
 obtain⟨b,a,c⟩:=k;refine⟨b,a,?_⟩;have:=h.trans c;simp only[Ar _ ht,Dg] at this;exact this
theorem Mj(K:Int->List Int)(hz:∀f c,(0:Int)∉sub K f c\/c=0)(hk0:∀x,(0:Int)∉K x)(hkl:∀x,(K x).length<=1000):∀(f:Nat) (i:Int) {B p:Nat} {x:Dx} (w:World) (_:i≠0) (_:x.rs.length<=1000) (_:GJ x.l K f i) (_:Dc w B p x),fA 170 #[iA p,aA i] w (E8 w B p x (sub K f i)):=by
 intro f
 induction f with
 |zero=>intro i B p x w _ _ O _;exact O.hb.elim
 |succ f ih=>
  intro i B p x w a8 hl O h;have IH:=Zh ih;have HS:=Zh O;have H:=Zh h;have HZ:=Zh hz;have a9:=Zh hk0;obtain⟨hh,P⟩:=O.at_ i (by simp[sub]);obtain⟨k,Q,hy,_⟩:=h.place hh;have u:=(gF h Q hy).2.2;rw[P] at u;obtain⟨b,hb⟩:=qA (x.rs[k].b);obtain⟨⟨A,n,c⟩,hv⟩:∃v,x.rs[k].vk=v:=⟨_,rfl⟩;have V:Hid (x.rs[k].vk.val= .slice A n c):=Zh (by rw[hv];rfl);have HY:=Zh hy;have HB:=Zh hb;have aa:Hid (K i=x.rs[k].nd.kids):=Zh u;obtain⟨g1,g2,g3,g4,g5⟩:=qG ((h.nd Q).kids) V.out;have HN:Hid ((K i).length=n):=Zh (by rw[u];exact g1);have a7:n<=1000:=(by rw[<-HN.out];exact hkl i);clear h O hz hk0 ih hh P hy u hb hv g1 g2 g3 g4 g5;go_enter func170,ntmps170;go_wp2_with fail;refine(VF i w Q HY.out HB.out H.out).mono ?_;rintro e w1 ⟨rfl,b1⟩;have B1:=Zh b1;have d6:w1.cell? (dA b 6)=some (.slice A n c):=(by have:=((H.out.below b1).nd Q).c6;rwa[HB.out,V.out] at this);clear b1;go_wp2_with fail;go_loopw [13] (fun G wr=>∃j:Nat,j<=n/\G = aA j/\Hid (sI w B p x (upto K f i j) wr)) (fun G _=>n-(intOf G).toNat)
  case atStart=>exact⟨0,by omega,rfl,Zh (by show sI w B p x (upto K f i 0) w1;exact sI.zero H.out B1.out)⟩
  case round=>
   obtain⟨j,hj,rfl,HF⟩:=hrel;obtain⟨v,vi,I⟩:=HF.out;have J:=Zh I;have m:x.rs[k]∈uD (upto K f i j) x.rs:=xZ.2 ⟨List.getElem_mem Q,by rw[HY.out];exact HS.out.Lj j⟩;clear I;by_cases am:j<n
   ·have y:j<(K i).length:=(by have:=HN.out;omega);obtain⟨R,ab⟩:=HS.out.lB y;have ac:=Zh R;have r:=(J.out.dc.nodes _ m).kids;rw[V.out,<-aa.out] at r;obtain⟨b',o,rfl,ad,hc⟩:=mD (qG r rfl).2.2.2.2 y;have s:(uD (upto K f i j) x.rs).length<=1000:=by
     have:(uD (upto K f i j) x.rs).length<=x.rs.length:=List.length_filter_le _ _;omega
    have S:(K i)[j]≠0:=fun e=>a9.out i (e▸List.getElem_mem y)
    have T:=Zh S;clear R ab r m ad S;go_wp2_with fail;refine(IH.out (K i)[j] (x:=⟨x.a,v,vi,x.R,x.n,fo x.foc (upto K f i j),uD (upto K f i j) x.rs⟩) wr T.out s (by show GJ ((uD (upto K f i j) x.rs).map (·.nd)) K f _;rw[y8];exact ac.out) J.out.dc).mono ?_;rintro e M ⟨rfl,v2,ae,U⟩;have NX:Hid (sI w B p x (upto K f i (j+1)) M):=Zh (by
     rw[hY y];exact sI.next J.out ((HZ.out f _).resolve_right T.out) ⟨v2,ae,U⟩)
    clear U;go_wp2_with fail;go_roundw
    case rel=>exact⟨j+1,by omega,by go_num,NX⟩
    case measure=>simp[intOf];omega
   ·obtain rfl:j=n:=by omega
    have C:upto K f i j=(K i).flatMap (sub K f):=(by rw[<-HN.out];exact yZ K f i);have W:=Zh C;have D:lA ((uD (upto K f i j) x.rs).map (·.nd)) i=true:=YK.2 ⟨x.rs[k].nd,List.mem_map.2 ⟨_,m,rfl⟩,HY.out⟩;have HH:=Zh D;have s:(uD (upto K f i j) x.rs).length<=1000:=by
     have:(uD (upto K f i j) x.rs).length<=x.rs.length:=List.length_filter_le _ _;omega
    have a:=Zh J.out.dc;generalize X:uD (upto K f i j) x.rs=l at J a HH s;generalize Y:fo x.foc (upto K f i j)=z at J a;have af:=Zh X;have ag:=Zh Y;have d0:=a.out.c0;have d1:=a.out.c1;have U:=a.out.c2;simp only at d0 d1 U;have Z:=a.out.lt (.inl rfl:UC p _ p);clear D C m HF X Y;go_wp2_with fail;refine(vg i wr (by rw[a.out.UN];exact HH.out) a.out.ar).mono ?_;rintro e M ⟨rfl,v',a2,b2,a0⟩;have A2:=Zh a2;have B2:=Zh b2;have V2:=Zh a0;have a1:¬eF x.a v p:=a.out.ar.other a.out.mA (by decide) (by decide);have k2:=(b2.block p Z a1).trans a.out.mA;have K2:=Zh k2;have e1:M.cell? (dA p 1)=some vi:=cell_of_row M p 1 _ _ (0,0) k2;have I2:Hid (kI.Own M B vi (WA (l.map (·.nd)))):=Zh (a.out.ids.but b2 (fun g hg=>by
     obtain⟨d,I⟩:=a.out.ids.ty hg;exact a.out.ar.other I (by decide) (by decide)))
    have a3:i∈WA (l.map (·.nd)):=vG.1 HH.out;have a4:(WA (l.map (·.nd))).Nodup:=by
     have:=a.out.VC;unfold EB Dx.l at this;unfold WA;rw[List.Nodup,List.pairwise_map];exact this.imp (fun h e=>by omega)
    have ah:(WA (l.map (·.nd))).length<=1000000:=(by simp[WA];omega);have ai:=Zh a3;have aj:=Zh a4;clear a2 b2 a0 a1 k2 a3 a4 d0 d1 U;go_wp2_with fail;refine(pW (WA (l.map (·.nd))) i M ah ai.out aj.out I2.out).mono ?_;rintro e N ⟨A3,n3,c3,rfl,o3,b3,a5⟩;have O3:=Zh o3;have B3:=Zh b3;have ak:=Zh a5;have k3:=(b3.block p (FA K2.out) (fun e=>pQ I2.out K2.out (by decide) e.symm)).trans K2.out;have f1:N.cell? (dA p 1)=some vi:=cell_of_row N p 1 _ _ (0,0) k3;have g1:N.frozen? (dA p 1)=false:=(by simp[World.frozen?,k3]);have f2:N.cell? (dA p 2)=some (aA z):=cell_of_row N p 2 _ _ (0,0) k3;have g2:N.frozen? (dA p 2)=false:=(by simp[World.frozen?,k3]);have DE:=Zh (Kj a.out HH.out B2.out A2.out V2.out B3.out O3.out ak.out);have E:∀W',oC wr B p ⟨x.a,v,vi,x.R,x.n,z,l⟩ ⟨x.a,v',.slice A3 n3 c3,x.R,x.n,fo z [i],uD [i] l⟩ W'->E8 w B p x (sub K (f+1) i) (.returned (.tuple #[])) W':=by
     intro W' I;have a6:=J.out;rw[<-af.out,<-ag.out] at I a6;obtain⟨v9,al,h9⟩:=sI.next a6 (t:=[i]) (by simpa using Ne.symm a8) ⟨v',_,I⟩;refine⟨rfl,v9,al,?_⟩;have hm:∀c,c∈upto K f i j++[i]↔c∈sub K (f+1) i:=by
      intro c;rw[W.out,sub];simp[or_comm]
     rw[Ij hm,Ke hm] at h9;exact h9
    have F:=Zh E;clear o3 b3 a5 k3 e1 E;by_cases q:z=i
    ·have hq:(z==i)=true:=(by simpa using q);have L:=Zh q;clear q;go_wp2_with fail
     go_end0
     refine F.out _ ?_;have:=DE.out.trans (DE.out.dc.RU 0);rw[show fo z [i]=0 by unfold fo;rw[if_pos (by rw[L.out];simp)]];exact this
    ·have hq:(z==i)=false:=(by simpa using q);have L:=Zh q;clear q;go_wp2_with fail
     go_end0
     refine F.out _ ?_;rw[show fo z [i]=z by unfold fo;rw[if_neg (by simpa using L.out)]];exact DE.out
variable{B p:Nat}{x:Dx}
theorem sub_zero{l:List Nd}(h:Tr (fun y=>lA l y=true) (yA l) (xA l))(f:Nat)(c:Int):(0:Int)∉sub (xA l) f c\/c=0:=by
 by_cases e:c=0
 ·exact .inr e
 ·refine .inl fun b=>e ?_
  obtain⟨j,a⟩:=h.WM f c 0 b;rw[h.NV] at a;exact a.symm
theorem Le(i:Int)(w:World)(hwf:WF x.d)(h:Dc w B p x):fA 140 #[iA p,aA i] w (Made w B p x (UA (OD x.d i).1) (OD x.d i).2):=by
 have H:=Zh h;cases hh:lA x.l i with
 |false=>
  have k:=Zh hh;have m:Hid (OD x.d i=(2,x.d)):=Zh (if_pos hh);clear h hwf hh;go_enter func140,ntmps140;go_wp2_with fail;refine(xC i w k H).mono ?_;rintro e v ⟨rfl,b⟩;have n:=Zh b;clear b;go_wp2_with fail;go_ret;rw[m.out];exact Made.same H n rfl rfl
 |true=>
  have k:=Zh hh;have u:¬lA x.d.l i=false:=(by rw[show x.d.l=x.l from rfl,hh];simp);by_cases g:i=1
  ·have N:(i==1)=true:=(by simpa using g);have m:Hid (OD x.d i=(4,x.d)):=Zh (by unfold OD;rw[if_neg u,if_pos g]);clear h hwf hh u g;go_enter func140,ntmps140;go_wp2_with fail;refine(xC i w k H).mono ?_;rintro e v ⟨rfl,b⟩;have n:=Zh b;clear b;go_wp2_with fail;go_ret;rw[m.out];exact Made.same H n rfl rfl
  ·have N:(i==1)=false:=(by simpa using g);have m:Hid (OD x.d i=(0,{x.d with l:=qE x.l i,foc:=fo x.foc (below (QA x.l i) i)})):=Zh (by unfold OD;rw[if_neg u,if_neg g];rfl);have z:=Zh hwf;have j:Tr (fun y=>lA x.l y=true) (yA x.l) (xA x.l):=hwf.tr;have a:=EI (i:=i) j;have O:=Zh a;have o:i≠0:=j.SF hh;have d:lA (QA x.l i) i=true:=(by rw[eG];exact hh);have X:x.rs.length<=200:=(by have g:=h.ar.len;have Y:=h.ar.room;rw[List.length_map] at g;omega);have q:GJ (QA x.l i) (xA (QA x.l i)) ((QA x.l i).length+1) i:=by
    refine⟨?_,a.YS _ _ d,fun c A=>⟨a.eR _ _ _ d A,rfl⟩⟩;have:=a.MQ (L:=WA (QA x.l i)) (fun y P=>vG.1 P) d;simpa[WA] using this
   have C:=Zh q;have Q:=Zh (sub_zero a);have E:Hid (∀y,(0:Int)∉xA (QA x.l i) y):=Zh (fun y R=>a.z (a.lB _ _ R).2.1);have F:Hid (∀y,(xA (QA x.l i) y).length<=1000):=Zh (fun y=>by
    have:=kJ (xA (QA x.l i) y) (WA (QA x.l i)) (a.IC y) (fun c A=>vG.1 (a.lB y c A).2.1);rw[hH] at this;have S:(WA x.l).length=x.rs.length:=(by simp[WA,Dx.l]);omega)
   have G:=Zh o;clear h hwf hh u g j a o d q;go_enter func140,ntmps140;go_wp2_with fail;refine(xC i w k H).mono ?_;rintro e v ⟨rfl,b⟩;have n:=Zh b;have T:=Zh (H.below b);clear b;go_wp2_with fail;refine(dT i v z k T).mono ?_;rintro e U ⟨rfl,f,I,r,s⟩;have J:=Zh ((oC.sC H n).trans I);have K:=Zh r;have t:f.length<=1000:=by
    have:=congrArg List.length s;simp only[List.length_map] at this;omega
   clear I r s;go_wp2_with fail;refine(Mj (xA (QA x.l i)) Q E F ((QA x.l i).length+1) i (x:={x with rs:=f}) U G t (by show GJ (f.map (·.nd)) _ _ _;rw[K.out];exact C) J.dc).mono ?_;rintro e Z ⟨rfl,v3,V,M⟩;have W:=Zh M;clear M;go_wp2_with fail;go_ret;rw[m.out];refine⟨rfl,_,J.trans W,?_⟩;show D.mk ((uD _ f).map (·.nd)) x.n x.R _=D.mk (qE x.l i) x.n x.R _;rw[y8,K.out];rfl
structure XI(w:World)(A:jA)(n c:Nat)(r:Rc):Prop where
 at_:rK w A n c r.attrs
 tag:r.tag.size<=maxLen
 txt:r.txt.size<=maxLen
 key:r.key.size<=maxLen
theorem XI.below{w w':World}{A:jA}{n c:Nat}{r:Rc}(h:XI w A n c r)(hb:eA w w'):XI w' A n c r:=⟨h.at_.below hb,h.tag,h.txt,h.key⟩
theorem Fg(r:Rc)(A:jA)(n c:Nat)(w:World)(hwf:WF x.d)(hn:x.n<=100000)(ha:XI w A n c r)(h:Dc w B p x):fA 117 #[iA p,.agg (JA r A n c)] w (Made w B p x (UA (VA x.d r).1) (VA x.d r).2):=by
 have H:=Zh h;have t:=Zh hwf;have o:Hid (eA w (w.alloc (.cells (JA r A n c) 87))):=Zh (Zb _ _);have u:=Zh (h.below o);have z:=Zh (ha.below o);have C:x.rs.length<=x.R:=(by have:=h.ar.len;rwa[List.length_map] at this);have D:=Zh ha.tag;have y:=Zh ha.txt;have E:=Zh ha.key;clear h hwf ha;by_cases b:r.op=1
 ·have F:(r.op==1)=true:=(by simpa using b);have g:Hid (VA x.d r=jD x.d r):=Zh (by unfold VA;simp[b]);clear b;go_enter func117,ntmps117;go_wp2_with fail;refine(Je r A n c _ hn D y E C u).mono ?_;rintro e v j;obtain⟨rfl,k,d,a⟩:=j;have l:=Zh ((oC.sC H o).trans d);have m:=Zh a;clear d a;go_wp2_with fail;go_ret;rw[g.out];exact⟨rfl,k,l,m⟩
 have F:(r.op==1)=false:=(by simpa using b);by_cases f:r.op=2
 ·have G:(r.op==2)=true:=(by simpa using f);have g:Hid (VA x.d r=oD x.d r.id r.par r.rA):=Zh (by unfold VA;simp[b,f]);clear f b;go_enter func117,ntmps117;go_wp2_with fail;refine(yn r.id r.par r.rA _ t u).mono ?_;rintro e v j;obtain⟨rfl,k,d,a⟩:=j;have l:=Zh ((oC.sC H o).trans d);have m:=Zh a;clear d a;go_wp2_with fail;go_ret;rw[g.out];exact⟨rfl,k,l,m⟩
 have G:(r.op==2)=false:=(by simpa using f);by_cases i:r.op=3
 ·have I:(r.op==3)=true:=(by simpa using i);have g:Hid (VA x.d r=OD x.d r.id):=Zh (by unfold VA;simp[b,f,i]);clear i b f;go_enter func117,ntmps117;go_wp2_with fail;refine(Le r.id _ t u).mono ?_;rintro e v j;obtain⟨rfl,k,d,a⟩:=j;have l:=Zh ((oC.sC H o).trans d);have m:=Zh a;clear d a;go_wp2_with fail;go_ret;rw[g.out];exact⟨rfl,k,l,m⟩
 have I:(r.op==3)=false:=(by simpa using i);by_cases q:r.op=4
 ·have J:(r.op==4)=true:=(by simpa using q);have g:Hid (VA x.d r=fD x.d r.id r.attrs):=Zh (by unfold VA;simp[b,f,i,q]);clear q b f i;go_enter func117,ntmps117;go_wp2_with fail;refine(jd r.id A n c r.attrs _ z.at_ u).mono ?_;rintro e v j;obtain⟨rfl,k,d,a⟩:=j;have l:=Zh ((oC.sC H o).trans d);have m:=Zh a;clear d a;go_wp2_with fail;go_ret;rw[g.out];exact⟨rfl,k,l,m⟩
 have J:(r.op==4)=false:=(by simpa using q);by_cases s:r.op=5
 ·have K:(r.op==5)=true:=(by simpa using s);have g:Hid (VA x.d r=GD x.d r.id r.txt):=Zh (by unfold VA;simp[b,f,i,q,s]);clear s b f i q;go_enter func117,ntmps117;go_wp2_with fail;refine(Dd r.id r.txt _ y u).mono ?_;rintro e v j;obtain⟨rfl,k,d,a⟩:=j;have l:=Zh ((oC.sC H o).trans d);have m:=Zh a;clear d a;go_wp2_with fail;go_ret;rw[g.out];exact⟨rfl,k,l,m⟩
 have K:(r.op==5)=false:=(by simpa using s);have g:Hid (VA x.d r=(1,x.d)):=Zh (by unfold VA;simp[b,f,i,q,s]);clear b f i q s;go_enter func117,ntmps117;go_wp2_with fail;go_ret;rw[g.out];exact Made.same H o rfl rfl
variable{B p:Nat}{x:Dx}
theorem fh(r:Int)(R:Nat)(w:World)(hr:r=R)(h1:1<=r)(h2:r<=200):fA 16 #[aA r] w (Oa w R):=by
 subst hr;exact NW R w cA cA
theorem NH:(⟨#[]⟩:wA).size<=maxLen:=by unfold maxLen;decide
theorem mK:UA 0= .nilIface:=rfl
variable{B p:Nat}{x:Dx}
theorem GM(d:D)(r:Rc):d.n<=(VA d r).2.n/\(VA d r).2.n<=d.n+1:=by
 unfold VA;split
 ·unfold jD;split
  ·exact⟨Int.le_refl _,by show d.n<=d.n+1;omega⟩
  ·split
   ·exact⟨Int.le_refl _,by show d.n<=d.n+1;omega⟩
   ·show d.n<=d.n+1/\d.n+1<=d.n+1;omega
 ·split
  ·unfold oD;split<;>exact⟨Int.le_refl _,by show d.n<=d.n+1;omega⟩
  ·split
   ·unfold OD;split
    ·exact⟨Int.le_refl _,by show d.n<=d.n+1;omega⟩
    ·split<;>exact⟨Int.le_refl _,by show d.n<=d.n+1;omega⟩
   ·split
    ·unfold fD;split
     ·exact⟨Int.le_refl _,by show d.n<=d.n+1;omega⟩
     ·split
      ·exact⟨Int.le_refl _,by show d.n<=d.n+1;omega⟩
      ·split<;>exact⟨Int.le_refl _,by show d.n<=d.n+1;omega⟩
    ·split
     ·unfold GD;split
      ·exact⟨Int.le_refl _,by show d.n<=d.n+1;omega⟩
      ·split
       ·exact⟨Int.le_refl _,by show d.n<=d.n+1;omega⟩
       ·split<;>exact⟨Int.le_refl _,by show d.n<=d.n+1;omega⟩
     ·exact⟨Int.le_refl _,by show d.n<=d.n+1;omega⟩
def LA(w:World)(g:Nat)(nd:Nd)(A:jA)(n c:Nat)(A2:jA)(n2 k2:Nat):Prop:=
 w.heap[g]? = some (.cells (XA nd A n c A2 n2 k2) 53 (0,0))
section
variable{w w':World}{g:Nat}{nd:Nd}{A A2:jA}{n c n2 k2:Nat}
theorem LA.lt(h:LA w g nd A n c A2 n2 k2):g<w.heap.size:=FA h
theorem LA.below{C:Nat}(h:LA w g nd A n c A2 n2 k2)(hb:Below C w w')(hC:g<C):LA w' g nd A n c A2 n2 k2:=(hb.block g hC).trans h
theorem LA.new(w:World)(nd:Nd)(A:jA)(n c:Nat)(A2:jA)(n2 k2:Nat):LA (w.alloc (.cells (XA nd A n c A2 n2 k2) 53)) w.heap.size nd A n c A2 n2 k2:=heap_alloc_new w _
theorem LA.c0(h:LA w g nd A n c A2 n2 k2):w.cell? (dA g 0)=some (aA nd.id):=cell_of_row w g 0 _ _ (0,0) h
theorem LA.c1(h:LA w g nd A n c A2 n2 k2):w.cell? (dA g 1)=some (aA nd.par):=cell_of_row w g 1 _ _ (0,0) h
theorem LA.c2(h:LA w g nd A n c A2 n2 k2):w.cell? (dA g 2)=some (bA nd.tag):=cell_of_row w g 2 _ _ (0,0) h
theorem LA.c3(h:LA w g nd A n c A2 n2 k2):w.cell? (dA g 3)=some (bA nd.txt):=cell_of_row w g 3 _ _ (0,0) h
theorem LA.c4(h:LA w g nd A n c A2 n2 k2):w.cell? (dA g 4)=some (bA nd.key):=cell_of_row w g 4 _ _ (0,0) h
theorem LA.c5(h:LA w g nd A n c A2 n2 k2):w.cell? (dA g 5)=some (.slice A n c):=cell_of_row w g 5 _ _ (0,0) h
theorem LA.c6(h:LA w g nd A n c A2 n2 k2):w.cell? (dA g 6)=some (.slice A2 n2 k2):=cell_of_row w g 6 _ _ (0,0) h
theorem LA.c7(h:LA w g nd A n c A2 n2 k2):w.cell? (dA g 7)=some (aA nd.note):=cell_of_row w g 7 _ _ (0,0) h
theorem LA.frozen(h:LA w g nd A n c A2 n2 k2)(i:Nat):w.frozen? (dA g i)=false:=by
 unfold LA at h;simp[World.frozen?,h]
end
theorem tQ{w:World}(h:Dc w B p x)(hwf:WF x.d){k:Nat}(hk:k<x.rs.length):x.rs[k].nd.attrs.length<=1000/\x.rs[k].nd.kids.length<=1000/\x.rs[k].nd.kids.Nodup/\(∀c∈x.rs[k].nd.kids,∃j,∃hj:j<x.rs.length,x.rs[j].nd.id=c/\x.rs[j].nd.par=x.rs[k].nd.id)/\1<=x.rs[k].nd.id/\x.rs[k].nd.id<=x.n/\(x.rs[k].nd.tag.toList=[]->x.rs[k].nd.kids=[]):=by
 have a:x.rs[k].nd∈x.d.l:=List.mem_map.2 ⟨_,List.getElem_mem hk,rfl⟩;have b:=(gF h hk rfl).2.2;have d:=hwf.vK _ a;refine⟨by have:=hwf.mB _ a;omega,by have:=hwf.vM a;omega,by rw[<-b];exact hwf.tr.IC _,fun c f=>?_,d.1,d.2,hwf.elem _ a⟩;obtain⟨g,i⟩:=hwf.Mm a f;obtain⟨j,hj,e,_⟩:=h.place g;exact⟨j,hj,e,by rw[<-(gF h hj e).2.1];exact i⟩
theorem LA.uV{w:World}{g:Nat}{nd nd':Nd}{A A2 A' A2':jA}{n c n2 k2 n' c' n2' k2':Nat}(h:LA w g nd A n c A2 n2 k2):
 LA ((((((((w.setCell (dA g 0) (aA nd'.id)).setCell (dA g 1) (aA nd'.par)).setCell (dA g 2) (bA nd'.tag)).setCell (dA g 3) (bA nd'.txt)).setCell (dA g 4) (bA nd'.key)).setCell (dA g 5) (.slice A' n' c')).setCell (dA g 6) (.slice A2' n2' k2')).setCell (dA g 7) (aA nd'.note)) g nd' A' n' c' A2' n2' k2':=by
 unfold LA at h|-;simp[World.setCell,Array.getElem?_modify,h]
structure Rn where
 va:Sv
 vk:Sv
 nd:Nd
def Rn.rn(r:Rn):RN:=⟨r.nd.id,r.nd.par,r.nd.tag,r.nd.txt,r.nd.key,r.va,r.vk,r.nd.note⟩
structure Rx where
 v:Value
 n:Int
 R:Nat
 foc:Int
 rs:List Rn
def Rx.l(y:Rx):List Nd:=y.rs.map (·.nd)
def Rx.d(y:Rx):D:=⟨y.l,y.n,y.R,y.foc⟩
def cD(q:Nat)(y:Rx)(k:Nat):Prop:=k=q\/y.v.ownBlock=some k\/∃r∈y.rs,r.vk.val.ownBlock=some k
structure YI(w:World)(B:Nat)(r:Rn):Prop where
 mB:nB w r.va r.nd.attrs
 kids:kI.Own w B r.vk.val r.nd.kids
structure Rf(w:World)(B q:Nat)(y:Rx):Prop where
 mA:w.heap[q]? = some (.cells #[y.v,aA (y.n+1),aA y.R,aA y.foc] 72 (0,0))
 base:B<=q
 own:kN.Own w B y.v (y.rs.map Rn.rn)
 nodes:∀r∈y.rs,YI w B r
variable{B q:Nat}{y:Rx}
section
variable{w w':World}
theorem Rf.lt(h:Rf w B q y){k:Nat}(hk:cD q y k):k<w.heap.size:=by
 rcases hk with rfl|hk|⟨r,hr,hk⟩
 ·exact FA h.mA
 ·exact(h.own.lt hk).2
 ·exact((h.nodes r hr).kids.lt hk).2
theorem Rf.ge(h:Rf w B q y){k:Nat}(hk:cD q y k):B<=k:=by
 rcases hk with rfl|hk|⟨r,hr,hk⟩
 ·exact h.base
 ·exact(h.own.lt hk).1
 ·exact((h.nodes r hr).kids.lt hk).1
theorem Rf.but{S:Nat->Prop}(h:Rf w B q y)(hb:gA S w w')(hS:∀k,cD q y k->¬S k)(hA:qD w S):Rf w' B q y:=by
 have a:∀k,cD q y k->w'.heap[k]? = w.heap[k]?:=fun k d=>hb.block k (h.lt d) (hS k d)
 refine⟨(a q (.inl rfl)).trans h.mA,h.base,h.own.sB (fun g b=>a g (.inr (.inl b))),fun r c=>⟨(h.nodes r c).mB.but hb hA,(h.nodes r c).kids.sB (fun g b=>a g (.inr (.inr ⟨r,c,b⟩)))⟩⟩
theorem Rf.below(h:Rf w B q y)(hb:eA w w'):Rf w' B q y:=h.but (gA.tB hb (fun _=>False)) (fun _ _ h=>h) (qD.none w)
theorem Rf.drewN(h:Rf w B q y)(n:Nat):Rf (w.drewN n) B q y:=h.below (PA Ze n)
theorem Rf.alloc(h:Rf w B q y)(o:Obj):Rf (w.alloc o) B q y:=h.below (Ze.alloc Zl o)
theorem Rf.c0(h:Rf w B q y):w.cell? (dA q 0)=some y.v:=cell_of_row w q 0 _ _ (0,0) h.mA
theorem Rf.c1(h:Rf w B q y):w.cell? (dA q 1)=some (aA (y.n+1)):=cell_of_row w q 1 _ _ (0,0) h.mA
theorem Rf.c2(h:Rf w B q y):w.cell? (dA q 2)=some (aA y.R):=cell_of_row w q 2 _ _ (0,0) h.mA
theorem Rf.c3(h:Rf w B q y):w.cell? (dA q 3)=some (aA y.foc):=cell_of_row w q 3 _ _ (0,0) h.mA
theorem Rf.frozen(h:Rf w B q y)(i:Nat):w.frozen? (dA q i)=false:=by
 have:=h.mA;simp[World.frozen?,this]
theorem Rf.slice(h:Rf w B q y):∃A c,y.v= .slice A y.rs.length c/\y.rs.length<=c/\c<=maxLen/\(A=none->c=0)/\kN.pA w w.heap.size A (y.rs.map Rn.rn):=by
 obtain⟨A,n,c,b,a,d,e,f,g⟩:=h.own.slice;rw[List.length_map] at a;subst a;exact⟨A,c,b,d,e,f,g⟩
theorem ZL{A:jA}{rs:List Rn}{C:Nat}(h:kN.pA w C A (rs.map Rn.rn)){k:Nat}(hk:k<rs.length):∃b o,A=some (dA b o)/\b<C/\
 w.cell? ⟨b,o+k*8,none⟩=some (aA rs[k].nd.id)/\w.cell? ⟨b,o+k*8+1,none⟩=some (aA rs[k].nd.par)/\w.cell? ⟨b,o+k*8+2,none⟩=some (bA rs[k].nd.tag)/\w.cell? ⟨b,o+k*8+3,none⟩=some (bA rs[k].nd.txt)/\
 w.cell? ⟨b,o+k*8+4,none⟩=some (bA rs[k].nd.key)/\w.cell? ⟨b,o+k*8+5,none⟩=some (.slice rs[k].va.A rs[k].va.n rs[k].va.c)/\w.cell? ⟨b,o+k*8+6,none⟩=some (.slice rs[k].vk.A rs[k].vk.n rs[k].vk.c)/\w.cell? ⟨b,o+k*8+7,none⟩=some (aA rs[k].nd.note):=by
 have c:k<(rs.map Rn.rn).length:=(by simpa using hk);obtain⟨b,o,d,f,a⟩:=h.at c;have e:(rs.map Rn.rn)[k]=rs[k].rn:=DA;rw[e] at a;exact⟨b,o,d,f,a 0 _ rfl,a 1 _ rfl,a 2 _ rfl,a 3 _ rfl,a 4 _ rfl,a 5 _ rfl,a 6 _ rfl,a 7 _ rfl⟩
theorem MD(y:Rx):y.l.length=y.rs.length:=by simp[Rx.l]
theorem FC{i:Int}(ha:EB y.l)(hi:lA y.l i=true):∃k,∃hk:k<y.rs.length,y.rs[k].nd.id=i/\find y.l i=some y.rs[k].nd:=by
 obtain⟨z,a,rfl⟩:=YK.1 hi;obtain⟨r,b,rfl⟩:=List.mem_map.1 a;obtain⟨k,hk,rfl⟩:=List.mem_iff_getElem.1 b;exact⟨k,hk,rfl,ha.find a⟩
structure LB(w:World)(B q:Nat)(y y':Rx)(w':World):Prop where
 rf:Rf w' B q y'
 but:gA (fun k=>k=q) w w'
 ft:∀k,cD q y' k->cD q y k\/w.heap.size<=k
theorem LB.trans{w2:World}{y1 y2:Rx}(h:LB w B q y y1 w')(k:LB w' B q y1 y2 w2):LB w B q y y2 w2:=by
 have b:=h.but.size;refine⟨k.rf,h.but.trans k.but (fun _ _ h=>h),fun i a=>?_⟩;rcases k.ft i a with e|e
 ·exact h.ft i e
 ·exact .inr cA
theorem LB.sC(h:Rf w B q y)(hb:eA w w'):LB w B q y y w':=⟨h.below hb,gA.tB hb _,fun _ h=> .inl h⟩
theorem LB.below{y':Rx}{w2:World}(h:LB w B q y y' w')(hb:eA w' w2):LB w B q y y' w2:=h.trans (LB.sC h.rf hb)
theorem LB.AB{y':Rx}(h:Rf w B q y)(k:LB w B q y y' w'):Below B w w':=k.but.AB (fun i _ a=>by have:=h.base;omega) (by have:=h.base;have:=h.lt (.inl rfl:cD q y q);omega)
theorem oK(h:Rf w B q y):qD w (fun k=>k=q):=by
 rintro k c f rfl a;exact RA h.mA a nA rfl
end
theorem rB(i:Int){k:Nat}(w:World)(ha:EB y.l)(hl:y.rs.length<=1000)(hk:k<y.rs.length)(hi:y.rs[k].nd.id=i)(h:Rf w B q y):fA 26 #[iA q,aA i] w fun e w'=>e= .returned (aA k)/\w=w':=by
 obtain⟨A,c,p,u,v,x,r⟩:=h.slice;have t:=h.c0;rw[p] at t;have z:=Zh r;have a:∀j (f:j<y.rs.length),j<k->y.rs[j].nd.id≠i:=by
  intro j f g e;have:=List.pairwise_iff_getElem.1 ha j k (by rw[MD];exact f) (by rw[MD];exact hk) g;simp only[Rx.l,List.getElem_map] at this;omega
 have l:=Zh a;have C:=Zh hi;obtain⟨n,m⟩:=qA y.rs.length;have D:=Zh m;rw[m] at t hl hk;clear h p u v x r a hi ha m;go_enter func26,ntmps26;go_wp2_with fail;go_loop [5] (fun s=>∃j:Nat,j<=k/\s = aA j) (fun s=>n-(intOf s).toNat)
 case atStart=>exact⟨0,by omega,rfl⟩
 case round=>
  obtain⟨j,f,rfl⟩:=hrel;have d:j<y.rs.length:=(uA D.out);obtain⟨b,o,rfl,G,H,_⟩:=ZL z d;by_cases E:j=k
  ·subst E;have F:(y.rs[j].nd.id==i)=true:=(by rw[C.out];simp);go_wp2;go_ret;exact⟨rfl,rfl⟩
  ·have F:(y.rs[j].nd.id==i)=false:=(by simpa using l j d cA);go_wp2;go_round
   case rel=>exact⟨j+1,by omega,by go_num⟩
   case measure=>simp[intOf];omega
theorem yH(i:Int)(w:World)(hl:y.rs.length<=1000)(hi:lA y.l i=false)(h:Rf w B q y):fA 26 #[iA q,aA i] w fun e w'=>e= .returned (aA (-1))/\w=w':=by
 obtain⟨A,c,l,r,t,u,m⟩:=h.slice;have p:=h.c0;rw[l] at p;have v:=Zh m;have a:∀j (f:j<y.rs.length),y.rs[j].nd.id≠i:=fun j f=>Ia.1 hi _ (List.mem_map.2 ⟨_,List.getElem_mem f,rfl⟩)
 have g:=Zh a;obtain⟨n,k⟩:=qA y.rs.length;have x:=Zh k;rw[k] at p hl;clear h l r t u m a hi k;go_enter func26,ntmps26;go_wp2_with fail;go_loop [5] (fun s=>∃j:Nat,j<=n/\s = aA j) (fun s=>n-(intOf s).toNat)
 case atStart=>exact⟨0,by omega,rfl⟩
 case round=>
  obtain⟨j,f,rfl⟩:=hrel;by_cases z:j<n
  ·have d:j<y.rs.length:=(uA x.out);obtain⟨b,o,rfl,C,D,_⟩:=ZL v d;have E:(y.rs[j].nd.id==i)=false:=(by simpa using g j d);go_wp2;go_round
   case rel=>exact⟨j+1,by omega,by go_num⟩
   case measure=>simp[intOf];omega
  ·go_wp2;go_ret;exact⟨rfl,rfl⟩
theorem IG{k:Nat}{i:Int}(ha:EB y.l)(hk:k<y.rs.length)(hy:y.rs[k].nd.id=i):MA y.l i=y.rs[k].nd.tag/\yA y.l i=y.rs[k].nd.par/\xA y.l i=y.rs[k].nd.kids:=by
 have b:y.rs[k].nd∈y.l:=List.mem_map.2 ⟨y.rs[k],List.getElem_mem hk,rfl⟩;have a:=ha.find b;rw[hy] at a;unfold MA yA xA;rw[a];exact⟨rfl,rfl,rfl⟩
theorem Jb{l:List Nd}{i:Int}(h:lA l i=false):yA l i=0/\xA l i=[]:=by
 have:find l i=none:=(by simpa[lA] using h);unfold yA xA;rw[this];exact⟨rfl,rfl⟩
theorem TT(i:Int)(w:World)(ha:EB y.l)(hl:y.rs.length<=1000)(h:Rf w B q y):fA 33 #[iA q,aA i] w fun e w'=>(∃A n c,e= .returned (.slice A n c)/\kI.Own w B (.slice A n c) (xA y.l i)/\∀g,(Value.slice A n c).ownBlock=some g->cD q y g)/\w=w':=by
 have H:=Zh h;have r:=Zh ha;cases hi:lA y.l i with
 |false=>
  have s:=Zh hi;have d:=Zh (Jb hi).2;clear h ha hi;go_enter func33,ntmps33;go_wp2_with fail;refine zA (yH i w hl s H) ?_;go_wp2_with fail;go_ret;rw[d.out];exact⟨⟨none,0,0,rfl,Kind.Own.nil _ _ _,fun g e=>by cases e⟩,rfl⟩
 |true=>
  obtain⟨k,a,f,_⟩:=FC ha hi;have d:=Zh (IG ha a f).2.2;have t:=Zh f;obtain⟨A,c,j,u,v,x,l⟩:=h.slice;have m:=h.c0;rw[j] at m;obtain⟨b,o,rfl,M,z,C,D,E,F,G,N,I⟩:=ZL l a;have J:=Zh (h.nodes _ (List.getElem_mem a)).kids;obtain⟨n,p⟩:=qA y.rs.length;have K:k<n:=cA;rw[p] at m;have L:n<=1000:=cA;clear h ha hi j u v x l f z C D E F G I p;go_enter func33,ntmps33;go_wp2_with fail;refine zA (rB i w r hl a t H) ?_;go_wp2_with fail;go_ret;rw[d.out];exact⟨⟨_,_,_,rfl,J,fun g e=> .inr (.inr ⟨_,List.getElem_mem a,e⟩)⟩,rfl⟩
theorem xN(i:Int)(w:World)(ha:EB y.l)(hl:y.rs.length<=1000)(h:Rf w B q y):fA 118 #[iA q,aA i] w fun e w'=>e= .returned (aA (yA y.l i))/\w=w':=by
 have H:=Zh h;have p:=Zh ha;cases hi:lA y.l i with
 |false=>
  have r:=Zh hi;have a:=Zh (Jb hi).1;clear h ha hi;go_enter func118,ntmps118;go_wp2_with fail;refine zA (yH i w hl r H) ?_;go_wp2_with fail;go_ret;exact⟨fK a.symm,rfl⟩
 |true=>
  obtain⟨k,d,f,_⟩:=FC ha hi;have a:=Zh (IG ha d f).2.1;have s:=Zh f;obtain⟨A,c,g,t,u,v,j⟩:=h.slice;have l:=h.c0;rw[g] at l;obtain⟨b,o,rfl,K,x,L,z,C,D,E,F,G⟩:=ZL j d;obtain⟨n,m⟩:=qA y.rs.length;have I:k<n:=cA;rw[m] at l;have J:n<=1000:=cA;clear h ha hi g t u v j f x z C D E F G m;go_enter func118,ntmps118;go_wp2_with fail;refine zA (rB i w p hl d s H) ?_;go_wp2_with fail;go_ret;exact⟨fK a.symm,rfl⟩
theorem q9{l:List Nd}{f:Nat}{x:Int}(h:lA l x=true):up (lA l) (yA l) (f+1) x=x:: up (lA l) (yA l) f (yA l x):=by rw[up,if_pos h]
theorem r9{l:List Nd}{f:Nat}{x:Int}(h:lA l x=false):up (lA l) (yA l) f x=[]:=by
 cases f with
 |zero=>rfl
 |succ f=>rw[up,if_neg (by rw[h];simp)]
def BU(w:World)(l:List Int)(e:Ending)(w':World):Prop:=∃A n c,e= .returned (.slice A n c)/\kI.Own w' w.heap.size (.slice A n c) l/\eA w w'
theorem On(i:Int)(w:World)(ha:EB y.l)(hl:y.rs.length<=1000)(h:Rf w B q y):fA 121 #[iA q,aA i] w (BU w (uE y.l i)):=by
 have H:=Zh h;have x:=Zh ha;obtain⟨n,u⟩:=qA y.rs.length;have z:Hid (uE y.l i=up (lA y.l) (yA y.l) (n+1) i):=Zh (by unfold uE;rw[MD,u]);obtain⟨A,c,C,o,S,D,T⟩:=h.slice;rw[u] at C;have U:=Zh C;have V:n<=1000:=cA;have HN:=Zh u;clear h ha C o S D T u;go_enter func121,ntmps121;go_wp2_with fail;go_loopw [1,5,6] (fun W X E wr=>∃(a:Int) (j:Nat) (b:List Int),j<=n+1/\W = aA a/\E = aA j/\b.length=j/\Hid (kI.Own wr w.heap.size X b)/\Hid (uE y.l i=b++up (lA y.l) (yA y.l) (n+1-j) a)/\Hid (eA w wr)) (fun _ _ E _=>n+1-(intOf E).toNat)
 case atStart=>exact⟨i,0,[],by omega,rfl,rfl,rfl,Zh (Kind.Own.nil _ _ _),Zh (by rw[z.out];rfl),Zh Ze⟩
 case round=>
  obtain⟨a,j,b,hj,rfl,rfl,p,r,F,s⟩:=hrel;have d:=Zh p;clear p;have G:=Zh (H.below s);have Y:=G.c0;rw[U.out] at Y;obtain⟨Z,N,c5,rfl,O,_⟩:=r.slice;have H5:Hid (N=j):=Zh (by rw[<-O];exact d);clear O;by_cases a0:j<=n
  ·cases o:lA y.l a with
   |false=>
    have P:=Zh o;have I:Hid (uE y.l i=b):=Zh (by rw[F.out,r9 o,List.append_nil]);clear o;go_wp2_with fail;refine zA (yH a wr hl P G) ?_;go_wp2_with fail;go_ret;rw[I.out];exact⟨_,_,_,rfl,r,s⟩
   |true=>
    obtain⟨k,J,Q,_⟩:=FC x o;have P:=Zh o;have HY:=Zh Q;have K:Hid (uE y.l i=(b++[a])++up (lA y.l) (yA y.l) (n+1-(j+1)) (yA y.l a)):=Zh (by
     rw[F.out,show n+1-j=(n+1-(j+1))+1 by omega,q9 o];simp)
    clear o Q;have D:=s.size;have a1:j<=1000:=cA;go_wp2_with fail;refine zA (rB a wr x hl J HY G) ?_;go_wp2_with (at_builtin;refine kI.iC rfl _ _ rfl (v:=.slice Z N c5) (l:=b) (m:=[a]) (B:=w.heap.size) rfl (r.alloc _) rfl rfl RB (Kind.pA.lit (heap_alloc_new _ _) rfl) (by have:=d.out;simp;omega) AA ?_;intro v' R f g L;obtain⟨A6,n6,c6,rfl,_,_,_,_,_⟩:=f.slice);have M:=Zh f;have t:Hid (eA w R):=Zh ((s.alloc D _).grown g AA (fun k J=>by have:=(r.lt J).1;omega));have H2:=Zh (H.below t);clear f g L;refine zA (xN a R x hl H2) ?_;go_wp2_with fail;go_roundw
    case rel=>exact⟨_,j+1,b++[a],by omega,rfl,by go_num,by simp[d.out],M,K,t⟩
    case measure=>simp[intOf];omega
  ·have I:Hid (uE y.l i=b):=Zh (by rw[F.out,show n+1-j=0 by omega];simp[up]);go_wp2_with fail;go_ret;rw[I.out];exact⟨_,_,_,rfl,r,s⟩
theorem FY{l:List Nd}:∀(f:Nat) (x:Int),(up (lA l) (yA l) f x).length<=f
 |0,_=>by simp[up]
 |f+1,x=>by
  rw[up];split
  ·simp only[List.length_cons];have:=FY (l:=l) f (yA l x);omega
  ·simp
theorem fM(a b:Int)(w:World)(ha:EB y.l)(hl:y.rs.length<=1000)(h:Rf w B q y):fA 98 #[iA q,aA a,aA b] w fun e w'=>e= .returned (.bool (inside y.l a b))/\eA w w':=by
 have H:=Zh h;have z:=Zh ha;have d:(uE y.l a).length<=1001:=(by have:=FY (l:=y.l) (y.l.length+1) a;rw[MD] at this;unfold uE;rw[MD];omega);have C:=Zh d;clear h ha d;go_enter func98,ntmps98;go_wp2_with fail;refine(On a w z hl H).mono ?_;rintro e M ⟨A,n,c,rfl,o,p⟩;obtain⟨r,D,E,F,t⟩:=qG o rfl;have u:=Zh r;have G:=Zh t;have v:=Zh p;have N:n<=1001:=(uA C.out);clear o p r D E F t;go_wp2_with fail;go_loop [8] (fun s=>∃j:Nat,j<=n/\s = aA j/\Hid (∀m (h:m<(uE y.l a).length),m<j->(uE y.l a)[m]≠b)) (fun s=>n-(intOf s).toNat)
 case atStart=>exact⟨0,by omega,rfl,Zh (fun m _ h=>by omega)⟩
 case round=>
  obtain⟨j,O,rfl,x⟩:=hrel;by_cases I:j<n
  ·have g:j<(uE y.l a).length:=(uA u.out);obtain⟨P,Q,rfl,_,R⟩:=mD G g;by_cases f:(uE y.l a)[j]=b
   ·have J:((uE y.l a)[j]==b)=true:=(by simpa using f);have k:Hid (inside y.l a b=true):=Zh (by unfold inside;rw[decide_eq_true_iff,<-f];exact List.getElem_mem g);clear f;go_wp2;go_ret;exact⟨MB k.symm,v⟩
   ·have J:((uE y.l a)[j]==b)=false:=(by simpa using f);have K:=Zh f;clear f;go_wp2;go_round
    case rel=>
     refine⟨j+1,by omega,by go_num,Zh (fun m i L=>?_)⟩;by_cases e:m=j
     ·subst e;exact K
     ·exact x m i cA
    case measure=>simp[intOf];omega
  ·have k:Hid (inside y.l a b=false):=Zh (by
    unfold inside;rw[decide_eq_false_iff_not];intro i;obtain⟨m,i,e⟩:=List.mem_iff_getElem.1 i;exact x m i (uA u.out) e)
   go_wp2;go_ret;exact⟨MB k.symm,v⟩
variable{B q:Nat}{y:Rx}
theorem Pn(w:World)(i:Int):kI.Own (w.alloc (.cells #[aA i] 3)) w.heap.size (.slice (some ⟨w.heap.size,0,none⟩) 1 1) [i]:=
 Kind.wG (K:=kI) (cur:=#[aA i]) rfl Zl (heap_alloc_new w _) Zl wD rfl rfl
theorem DU(hTr:Tr (fun z=>lA y.l z=true) (yA y.l) (xA y.l))(ha:EB y.l)(hl:y.rs.length<=1000)(hsub:∀f c,lA y.l c=true->(sub (xA y.l) f c).length<=1000):
 ∀(f:Nat) (i:Int) (w:World) (_:Hb (xA y.l) f i) (_:lA y.l i=true) (_:Rf w B q y),fA 120 #[iA q,aA i] w (BU w (sub (xA y.l) f i)):=by
 intro f
 induction f with
 |zero=>intro i w E _ _;exact E.elim
 |succ f ih=>
  intro i w E F h;have IH:=Zh ih;have G:=Zh E;have H:=Zh h;have U:=Zh ha;have I:=Zh hTr;have HS:=Zh hsub;have HI:=Zh F;obtain⟨k,J,V,_⟩:=FC ha F;have HY:=Zh V;clear h ha F V ih E hTr hsub;go_enter func120,ntmps120;go_wp2_with fail;refine zA (rB i w U hl J HY H) ?_;go_wp2_with fail;have X:=Zh (Pn w i);have s:Hid (eA w (w.alloc (.cells #[aA i] 3))):=Zh (Zb _ _);generalize w.alloc (.cells #[aA i] 3)=W at X s|-;refine(TT i W U hl (H.below s)).mono ?_;rintro e w' ⟨⟨A,n,c,rfl,t,u⟩,rfl⟩;have Y:=t.sB (w':=w) (fun g hg=>(s.block g (H.lt (u g hg))).symm);obtain⟨Z,g2,g3,g4,g5⟩:=qG Y rfl;have K:=Zh Z;have HK:=Zh g5;have hn:n<=1000:=by
   have p:=kJ (xA y.l i) (WA y.l) (I.IC i) (fun c L=>vG.1 (I.lB i c L).2.1);simp only[WA,List.length_map,Rx.l] at p;have:=K.out;simp only[Rx.l] at this;omega
  have a0:=s.size;clear Y t u Z g2 g3 g4 g5;go_wp2_with fail;go_loopw [5,7] (fun s5 M wr=>∃j:Nat,j<=n/\M = aA j/\Hid (kI.Own wr w.heap.size s5 (i:: upto (xA y.l) f i j))/\Hid (eA w wr)) (fun _ M _=>n-(intOf M).toNat)
  case atStart=>exact⟨0,by omega,rfl,Zh (by simpa[upto] using X.out),s⟩
  case round=>
   obtain⟨j,hj,rfl,N,x⟩:=hrel;obtain⟨A5,n5,c5,rfl,h5,_⟩:=N.slice;by_cases a1:j<n
   ·have d:j<(xA y.l i).length:=(uA K.out);obtain⟨gb,go,rfl,_,L⟩:=mD (HK.on x) d;have o:=I.lB i _ (List.getElem_mem d);have C:=Zh (IH (xA y.l i)[j] wr (G _ (List.getElem_mem d)) o.2.1 (H.below x));have O:Hid ((i:: upto (xA y.l) f i (j+1)).length<=1000):=Zh (by
     have p:=HS (f+1) i HI;rw[sub] at p;have h2:(upto (xA y.l) f i (j+1)).length<=((xA y.l i).flatMap (sub (xA y.l) f)).length:=by
      unfold upto;have e:(xA y.l i).flatMap (sub (xA y.l) f)=((xA y.l i).take (j+1)).flatMap (sub (xA y.l) f)++((xA y.l i).drop (j+1)).flatMap (sub (xA y.l) f):=(by rw[<-List.flatMap_append,List.take_append_drop]);rw[e,List.length_append];omega
     simp only[List.length_cons] at p|-;omega)
    have r:=Zh (hY (f:=f) d);generalize (xA y.l i)[j]=kd at L C r;clear o h5;go_wp2_with fail;refine C.mono ?_;rintro e w2 ⟨A6,n6,c6,rfl,o6,P⟩;obtain⟨k1,k2,k3,k4,k5⟩:=qG o6 rfl;have K1:=Zh k1;have K4:Hid (A6=none->c6=0):=Zh (fun e=>(k4 e).1);have K5:=Zh k5;have D:=Zh (N.below P Zl);have Q:=Zh (x.trans (P.mono x.size));have a2:=Q.size;clear o6 P k1 k2 k3 k4 k5;go_wp2_with (at_builtin;refine kI.iC rfl _ _ rfl (v:=.slice A5 n5 c5) (l:=i:: upto (xA y.l) f i j) (m:=sub (xA y.l) f kd) (B:=w.heap.size) rfl D rfl K1 K4 K5 (by have p:=O.out;rw[r.out] at p;simp only[List.length_cons,List.length_append] at p|-;have:=K1.out;omega) cA ?_;intro v' w3 a b R;obtain⟨A7,n7,c7,rfl,_,_,_,_,_⟩:=a.slice);have S:Hid (kI.Own w3 w.heap.size (.slice A7 n7 c7) (i:: upto (xA y.l) f i (j+1))):=Zh (by rw[r.out];exact a);have T:Hid (eA w w3):=Zh (Q.grown b (uA Q.size) (fun k J=>(D.lt J).1));clear a b R;go_wp2_with fail;go_roundw
    case rel=>exact⟨j+1,by omega,by go_num,S,T⟩
    case measure=>simp[intOf];omega
   ·have HE:Hid (i:: upto (xA y.l) f i j=sub (xA y.l) (f+1) i):=Zh (by rw[sub,<-yZ,show j=(xA y.l i).length by have:=K.out;omega]);go_wp2_with fail;go_ret;exact⟨_,_,_,rfl,by rw[<-HE.out];exact N,x⟩
theorem Kind.Own.Wb{P:Program}{α:Type}{K:Kind P α}{w:World}{g n c:Nat}{l:List α}(h:K.Own w B (.slice (some (dA g 0)) n c) l){k:Nat}(hk:k<l.length)(a:α):
 K.Own (w.setCells g (k*K.size) (K.cs a)) B (.slice (some (dA g 0)) n c) (l.set k a):=by
 rcases h.form with⟨hv,_⟩|⟨g',c',cur,hv,_,hBg,hlt,hh,zC,cC,hcs,ht⟩
 ·cases hv
 injection hv with e1 e2 e3;injection e1 with e1;injection e1 with e1;subst e1;subst e2;subst e3;obtain⟨q,t,u,v⟩:=FH g (K.cs a) (k*K.size) w cur _ _ hh;have r:l.length*K.size<=c*K.size:=Nat.mul_le_mul_right _ zC;have x:(k+1)*K.size<=l.length*K.size:=Nat.mul_le_mul_right _ hk;have s:(k+1)*K.size=k*K.size+K.size:=(by rw[Nat.add_mul,Nat.one_mul]);refine Kind.wG DA hBg t zC cC (by rw[u];exact hcs) ?_;apply List.ext_getElem?;intro i;have b:=K.wF;rw[List.getElem?_take];by_cases p:i<l.length*K.size
 ·rw[if_pos p,Array.getElem?_toList,v i cA,K.len];have m:i/K.size*K.size+i % K.size=i:=(by rw[Nat.mul_comm];exact Nat.div_add_mod i K.size);have d:i % K.size<K.size:=Nat.mod_lt _ b;have e:i/K.size<l.length:=(by rw[Nat.div_lt_iff_lt_mul b];exact p);have o:=K.aK (l.set k a) (i/K.size) (by simpa using e) (i % K.size) d;rw[m] at o;rw[o,List.getElem_set];by_cases j:k=i/K.size
  ·subst j;rw[if_pos rfl,if_pos ⟨by omega,by omega⟩];congr 1;omega
  ·rw[if_neg j];have f:=K.aK l (i/K.size) e (i % K.size) d;rw[m] at f;rw[<-f,<-ht,List.getElem?_take,if_pos p,if_neg ?_,Array.getElem?_toList];rintro⟨y,z⟩;apply j;have A:k<=i/K.size:=(by rw[Nat.le_div_iff_mul_le b];exact y);have C:i/K.size<k+1:=(by rw[Nat.div_lt_iff_lt_mul b];omega);omega
 ·rw[if_neg p,List.getElem?_eq_none];rw[Kind.fH,List.length_set];omega
structure JL(w:World)(B q:Nat)(y y':Rx)(r:Rn)(w':World):Prop where
 rf:Rf w' B q y'
 but:gA (fun k=>k=q) w w'
 ft:∀k,cD q y' k->cD q y k\/r.vk.val.ownBlock=some k\/w.heap.size<=k
theorem JL.AI{w0 w w':World}{y':Rx}{r:Rn}(h:JL w B q y y' r w')(hb:eA w0 w)(hg:∀g,r.vk.val.ownBlock=some g->cD q y g\/w0.heap.size<=g):LB w0 B q y y' w':=by
 refine⟨h.rf,(gA.tB hb _).trans h.but (fun _ _ h=>h),fun k a=>?_⟩;have:=hb.size;rcases h.ft k a with e|e|e
 ·exact .inl e
 ·exact hg k e
 ·exact .inr cA
def Qs(w:World)(B q:Nat)(y:Rx)(k:Nat)(r:Rn)(e:Ending)(w':World):Prop:=e= .returned (.tuple #[])/\∃v,JL w B q y {y with v:=v,rs:=y.rs.set k r} r w'
theorem Qn{w w2 w':World}(h:Rf w B q y){k:Nat}(hk:k<y.rs.length){r:Rn}(hr:YI w B r){g c:Nat}(hb:eA w w2)
 (ho:kN.Own w2 (w.heap.size+1) (.slice (some (dA g 0)) y.rs.length c) (y.rs.map Rn.rn)) (hw:w'=(w2.setCells g (k*8) r.rn.cells).drew.setCell (dA q 0) (.slice (some (dA g 0)) y.rs.length c)):
 JL w B q y {y with v:=.slice (some (dA g 0)) y.rs.length c,rs:=y.rs.set k r} r w':=by
 have z:=FA h.mA;have C:=(ho.lt (g:=g) rfl).1;have n:eA w (w2.setCells g (k*8) r.rn.cells).drew:=by
  have:=gA.setCells (S:=fun i=>i=g) (a:=w2) (g:=g) (gA.refl _ _) (fun _=>rfl) (k*8) r.rn.cells;exact(hb.trans (this.AB (fun i _ l=>by omega) hb.size)).drew
 have m:kN.Own (w2.setCells g (k*8) r.rn.cells).drew (w.heap.size+1) (.slice (some (dA g 0)) y.rs.length c) ((y.rs.map Rn.rn).set k r.rn):=(Kind.Own.Wb (K:=kN) ho (k:=k) (by simpa using hk) r.rn).drew;generalize (w2.setCells g (k*8) r.rn.cells).drew=W at hw n m;have b:gA (fun k=>k=q) w w':=by
  rw[hw];exact gA.setCell (S:=fun k=>k=q) (p:=(dA q 0)) (gA.tB n _) (fun _=>rfl) _
 have o:(y.rs.map Rn.rn).set k r.rn=(y.rs.set k r).map Rn.rn:=(by rw[List.map_set]);rw[o] at m;have u:=oK h;have x:∀s:Rn,(f:YI w B s)->∀i,s.vk.val.ownBlock=some i->i≠q:=by
  rintro s f i l rfl;obtain⟨d,A⟩:=f.kids.ty l;exact RA A h.mA nA rfl
 have t:∀s:Rn,YI w B s->YI w' B s:=fun s f=>
  ⟨f.mB.but b u,f.kids.sB (fun i l=>b.block i (f.kids.lt l).2 (x s f i l))⟩
 refine⟨⟨by rw[hw];exact heap_set ((n.block q z).trans h.mA) 0 _,h.base,?_,fun s f=>?_⟩,b,fun i l=>?_⟩
 ·rw[hw];refine(m.sB fun i l=>Below.heap_setCell _ _ _ _ ?_).dE (uA h.base);rintro rfl;have:=(m.lt l).1;omega
 ·rcases wM (show s∈y.rs.set k r from f) with rfl|⟨j,hj,_,rfl⟩
  ·exact t _ hr
  ·exact t _ (h.nodes _ (List.getElem_mem hj))
 ·rcases l with e|e|⟨s,f,e⟩
  ·exact .inl (.inl e)
  ·simp only[Value.ownBlock,Option.some.injEq] at e;exact .inr (.inr cA)
  ·rcases wM (show s∈y.rs.set k r from f) with rfl|⟨j,hj,_,rfl⟩
   ·exact .inr (.inl e)
   ·exact .inl (.inr (.inr ⟨_,List.getElem_mem hj,e⟩))
theorem iK(k:Nat)(nd:Nd)(A:jA)(n c:Nat)(A2:jA)(n2 c2:Nat)(w:World)(ha:EB y.l)(hl:y.rs.length<=1000)(hk:k<y.rs.length)(hi:y.rs[k].nd.id=nd.id)(hr:YI w B ⟨⟨A,n,c⟩,⟨A2,n2,c2⟩,nd⟩)
 (h:Rf w B q y):fA 92 #[iA q,.agg (XA nd A n c A2 n2 c2)] w (Qs w B q y k ⟨⟨A,n,c⟩,⟨A2,n2,c2⟩,nd⟩):=by
 have H:=Zh h;have HA:=Zh ha;have HR:=Zh hr;have HI:=Zh hi;obtain⟨AL,cL,p,hc,hm,hz,C⟩:=h.slice;have HV:=Zh p;have HZ:=Zh hz;have HH:=Zh C;have L:=h.c0;rw[p] at L;have D:=FA h.mA;obtain⟨nl,z⟩:=qA y.rs.length;have r:=Zh z;rw[z] at L;have a1:nl<=1000:=cA;have a2:k<nl:=cA;have f0:=h.frozen 0;have OM:Hid (kN.Own ((w.alloc (.cells (XA nd A n c A2 n2 c2) 53)).alloc (.cells #[] 53)) (w.heap.size+1) (.slice (some ⟨w.heap.size+1,0,none⟩) 0 0) []):=Zh (by
  have:=Kind.Own.made kN (w.alloc (.cells (XA nd A n c A2 n2 c2) 53)) (w.heap.size+1) DA;rw[show(w.alloc (.cells (XA nd A n c A2 n2 c2) 53)).heap.size=w.heap.size+1 by simp] at this;exact this)
 have M:Hid (eA w ((w.alloc (.cells (XA nd A n c A2 n2 c2) 53)).alloc (.cells #[] 53))):=Zh ((Zb _ _).alloc DA _);have N0:Hid (LA ((w.alloc (.cells (XA nd A n c A2 n2 c2) 53)).alloc (.cells #[] 53)) w.heap.size nd A n c A2 n2 c2):=Zh (oB (LA.new w nd A n c A2 n2 c2));clear h ha hr hi p hc hm hz C z;go_enter func92,ntmps92;go_wp2_with (at_builtin;refine kN.iC rfl _ _ rfl (v:=.slice (some ⟨w.heap.size+1,0,none⟩) 0 0) (l:=[]) (m:=y.rs.map Rn.rn) (B:=w.heap.size+1) rfl OM rfl (by rw[List.length_map];exact r) HZ (HH.on M) AA DA ?_;intro v' d t o N);have b:kN.Own d (w.heap.size+1) v' (y.rs.map Rn.rn):=(by simpa using t);obtain⟨gN,cN,rfl⟩:∃g c,v'= .slice (some (dA g 0)) nl c:=by
  rcases b.form with⟨_,hn⟩|⟨g,c,cur,rfl,_⟩
  ·have:(y.rs.map Rn.rn).length=0:=(by rw[hn];rfl);rw[List.length_map] at this;omega
  ·exact⟨g,c,by rw[List.length_map,r.out]⟩
 have O:=Zh b;have I:Hid (eA w d):=Zh (M.grown o AA (fun k hk=>by simp only[Value.ownBlock,Option.some.injEq] at hk;omega));have a4:w.heap.size+1<=gN:=(b.lt (g:=gN) rfl).1;have a3:gN<d.heap.size:=(b.lt (g:=gN) rfl).2;have a5:nl<=cN:=by
  obtain⟨A',n',c',p,_,h2,_⟩:=b.slice;injection p with s J E;omega
 have x:Hid (LA d w.heap.size nd A n c A2 n2 c2):=Zh ((o.block _ AA (by simp[Value.ownBlock])).trans N0);have P:=Zh (H.below I);have e0:=x.c0;have s:=x.c1;have J:=x.c2;have E:=x.c3;have e4:=x.c4;have e5:=x.c5;have e6:=x.c6;have e7:=x.c7;clear t o N b OM M N0;have a6:w.heap.size≠gN:=cA;have F:gN≠w.heap.size:=cA;have a7:gN≠q:=cA;have G:∀(W:World) (i j:Nat) (v:Value),(W.setCell (dA gN i) v).cell? ⟨w.heap.size,j,none⟩=W.cell? ⟨w.heap.size,j,none⟩:=fun W i j v=>World.cell?_setCell_far _ _ _ _ F
 have f:d.there gN (k*8) 8:=by
  obtain⟨A',n',c',p,_⟩:=O.slice;rcases O.form with⟨p,_⟩|⟨g',c',cur,p,_,_,_,C,_,_,hcs,_⟩
  ·cases p
  injection p with s J E;injection s with s;injection s with s;subst s;subst E;intro j hj;have Q:k*8+j<cur.size:=(by rw[hcs];show k*8+j<cN*8;omega);exact⟨by rw[cell_of_row d gN (k*8+j) _ _ (0,0) C,Array.getElem?_eq_getElem Q];rfl,by simp[World.frozen?,C]⟩
 obtain⟨⟨u0,g0⟩,R⟩:(∃u,d.cell? ⟨gN,k*8,none⟩=some u)/\d.frozen? ⟨gN,k*8,none⟩=false:=⟨Option.isSome_iff_exists.1 (f 0 cA).1,(f 0 cA).2⟩;obtain⟨⟨u1,g1⟩,T⟩:(∃u,d.cell? ⟨gN,k*8+1,none⟩=some u)/\d.frozen? ⟨gN,k*8+1,none⟩=false:=⟨Option.isSome_iff_exists.1 (f 1 cA).1,(f 1 cA).2⟩;obtain⟨⟨u2,g2⟩,U⟩:(∃u,d.cell? ⟨gN,k*8+2,none⟩=some u)/\d.frozen? ⟨gN,k*8+2,none⟩=false:=⟨Option.isSome_iff_exists.1 (f 2 cA).1,(f 2 cA).2⟩;obtain⟨⟨u3,g3⟩,V⟩:(∃u,d.cell? ⟨gN,k*8+3,none⟩=some u)/\d.frozen? ⟨gN,k*8+3,none⟩=false:=⟨Option.isSome_iff_exists.1 (f 3 cA).1,(f 3 cA).2⟩;obtain⟨⟨u4,g4⟩,X⟩:(∃u,d.cell? ⟨gN,k*8+4,none⟩=some u)/\d.frozen? ⟨gN,k*8+4,none⟩=false:=⟨Option.isSome_iff_exists.1 (f 4 cA).1,(f 4 cA).2⟩;obtain⟨⟨u5,g5⟩,Y⟩:(∃u,d.cell? ⟨gN,k*8+5,none⟩=some u)/\d.frozen? ⟨gN,k*8+5,none⟩=false:=⟨Option.isSome_iff_exists.1 (f 5 cA).1,(f 5 cA).2⟩;obtain⟨⟨u6,g6⟩,Z⟩:(∃u,d.cell? ⟨gN,k*8+6,none⟩=some u)/\d.frozen? ⟨gN,k*8+6,none⟩=false:=⟨Option.isSome_iff_exists.1 (f 6 cA).1,(f 6 cA).2⟩;obtain⟨⟨u7,g7⟩,a0⟩:(∃u,d.cell? ⟨gN,k*8+7,none⟩=some u)/\d.frozen? ⟨gN,k*8+7,none⟩=false:=⟨Option.isSome_iff_exists.1 (f 7 cA).1,(f 7 cA).2⟩;clear f;go_region_held3 (fun w'=>w'.cell? ⟨w.heap.size,0,none⟩=some (aA nd.id)/\w'.cell? ⟨w.heap.size,1,none⟩=some (aA nd.par)/\w'.cell? ⟨w.heap.size,2,none⟩=some (bA nd.tag)/\w'.cell? ⟨w.heap.size,3,none⟩=some (bA nd.txt)/\
  w'.cell? ⟨w.heap.size,4,none⟩=some (bA nd.key)/\w'.cell? ⟨w.heap.size,5,none⟩=some (.slice A n c)/\w'.cell? ⟨w.heap.size,6,none⟩=some (.slice A2 n2 c2)/\w'.cell? ⟨w.heap.size,7,none⟩=some (aA nd.note)) (first|go_keep|(simp only[World.cell?_drew,G];exact⟨e0,s,J,E,e4,e5,e6,e7⟩)) ((first
  |(go_at_call 26;refine zA (rB nd.id _ HA hl hk HI (by exact P.drewN _)) ?_)
  |fail))
 have K:((((((((d.setCell ⟨gN,k*8,none⟩ (aA nd.id)).setCell ⟨gN,k*8+1,none⟩ (aA nd.par)).setCell ⟨gN,k*8+2,none⟩ (bA nd.tag)).setCell ⟨gN,k*8+3,none⟩ (bA nd.txt)).setCell ⟨gN,k*8+4,none⟩ (bA nd.key)).setCell ⟨gN,k*8+5,none⟩ (.slice A n c)).setCell ⟨gN,k*8+6,none⟩ (.slice A2 n2 c2)).setCell ⟨gN,k*8+7,none⟩ (aA nd.note)).drew=(d.setCells gN (k*8) (Rn.rn ⟨⟨A,n,c⟩,⟨A2,n2,c2⟩,nd⟩).cells).drew:=rfl;generalize ((((((((d.setCell ⟨gN,k*8,none⟩ (aA nd.id)).setCell ⟨gN,k*8+1,none⟩ (aA nd.par)).setCell ⟨gN,k*8+2,none⟩ (bA nd.tag)).setCell ⟨gN,k*8+3,none⟩ (bA nd.txt)).setCell ⟨gN,k*8+4,none⟩ (bA nd.key)).setCell ⟨gN,k*8+5,none⟩ (.slice A n c)).setCell ⟨gN,k*8+6,none⟩ (.slice A2 n2 c2)).setCell ⟨gN,k*8+7,none⟩ (aA nd.note)).drew=W at K|-;have b3:eA w W:=by
  rw[K];have:=gA.setCells (S:=fun i=>i=gN) (a:=d) (g:=gN) (gA.refl _ _) (fun _=>rfl) (k*8) (Rn.rn ⟨⟨A,n,c⟩,⟨A2,n2,c2⟩,nd⟩).cells;exact(I.trans (this.AB (fun i _ hi=>by omega) I.size)).drew
 have d0:W.cell? (dA q 0)=some (.slice AL nl cL):=(b3.cell (by exact D)).trans L;have d1:W.frozen? (dA q 0)=false:=(H.below b3).frozen 0;have HW:=Zh K;clear K b3 e0 s J E e4 e5 e6 e7 g0 g1 g2 g3 g4 g5 g6 g7 R T U V X Y Z a0 G;go_wp2_with fail;refine bodyPost_ret (results_none rfl _ _ _) rfl ?_;refine⟨rfl,_,Qn H hk HR I (g:=gN) (c:=cN) (by rw[r.out];exact O) ?_⟩;rw[<-HW.out,r.out]
variable{B q:Nat}{y:Rx}
structure Ss(w:World)(b o:Nat)(nd:Nd)(A:jA)(n c:Nat)(A2:jA)(n2 k2:Nat):Prop where
 c0:w.cell? (dA b o)=some (aA nd.id)
 c1:w.cell? ⟨b,o+1,none⟩=some (aA nd.par)
 c2:w.cell? ⟨b,o+2,none⟩=some (bA nd.tag)
 c3:w.cell? ⟨b,o+3,none⟩=some (bA nd.txt)
 c4:w.cell? ⟨b,o+4,none⟩=some (bA nd.key)
 c5:w.cell? ⟨b,o+5,none⟩=some (.slice A n c)
 c6:w.cell? ⟨b,o+6,none⟩=some (.slice A2 n2 k2)
 c7:w.cell? ⟨b,o+7,none⟩=some (aA nd.note)
theorem Rf.bG{w:World}(h:Rf w B q y){k:Nat}(hk:k<y.rs.length):∃b o c A n ca A2 n2 c2,y.v= .slice (some (dA b o)) y.rs.length c/\y.rs.length<=c/\b<w.heap.size/\w.cell? (dA q 0)=some (.slice (some (dA b o)) y.rs.length c)/\Ss w b (o+k*8) y.rs[k].nd A n ca A2 n2 c2/\y.rs[k].va=⟨A,n,ca⟩/\y.rs[k].vk=⟨A2,n2,c2⟩:=by
 obtain⟨A,c,a,e,u,v,f⟩:=h.slice;obtain⟨b,o,rfl,g,i,j,l,m,p,r,s,t⟩:=ZL f hk;have d:=h.c0;rw[a] at d;exact⟨b,o,c,_,_,_,_,_,_,a,e,g,d,⟨i,j,l,m,p,r,s,t⟩,rfl,rfl⟩
theorem jh{i:Int}{l:List Int}{j:Nat}(hj:j<l.length):less i (l.take (j+1))=if l[j]=i then less i (l.take j) else less i (l.take j)++[l[j]]:=by
 unfold less;rw[List.take_succ_eq_append_getElem hj,List.filter_append];by_cases e:l[j]=i
 ·rw[if_pos e];simp[e]
 ·rw[if_neg e];simp[e]
theorem Sn{l:List Nd}(h:EB l){k k2:Nat}(hk:k<l.length)(hk2:k2<l.length)(hne:k2≠k)(f g:Nd->Nd)(hf:∀x,(f x).id=x.id):
 (l.set k2 (f l[k2])).set k (g l[k])=iB (iB l l[k2].id f) l[k].id g/\EB (l.set k2 (f l[k2])):=by
 have b:=h.lQ hk2 f;have c:(l.set k2 (f l[k2]))[k]'(by simpa using hk)=l[k]:=List.getElem_set_ne hne _;have a:EB (l.set k2 (f l[k2])):=DI h (by
  unfold WA;rw[List.map_set,hf];apply List.ext_getElem
  ·simp
  ·intro j d i;rw[List.getElem_set];by_cases e:k2=j
   ·subst e;rw[if_pos rfl,List.getElem_map]
   ·rw[if_neg e])
 have:=a.lQ (k:=k) (by simpa using hk) g;rw[c] at this;exact⟨by rw[this,b],a⟩
theorem LA.eD{w:World}{g:Nat}{nd:Nd}{A:jA}{n c:Nat}{A2:jA}{n2 k2:Nat}(h:LA w g nd A n c A2 n2 k2):qD w (fun k=>k=g):=by
 rintro k b f rfl a;exact RA h a nA rfl
theorem Rf.iL{w:World}(h:Rf w B q y){g:Nat}(hf:¬cD q y g)(hA:qD w (fun k=>k=g))(j:Nat)(u:Value):Rf (w.setCell (dA g j) u) B q y:=
 h.but (gA.setCell (S:=fun k=>k=g) (p:=(dA g j)) (gA.refl _ _) (fun _=>rfl) u) (fun k a e=>hf (e▸a)) hA
theorem LB.iL{w w':World}{y':Rx}(h:LB w B q y y' w'){g:Nat}(hge:w.heap.size<=g)(hf:¬cD q y' g)(hA:qD w' (fun k=>k=g))(j:Nat)(u:Value):LB w B q y y' (w'.setCell (dA g j) u):=
 ⟨h.rf.iL hf hA j u,gA.setCell (S:=fun k=>k=q) (p:=(dA g j)) h.but (fun e=>by simp only at e;omega) u,h.ft⟩
def Cr(w:World)(B q:Nat)(y:Rx)(i:Int)(e:Ending)(w':World):Prop:=e= .returned (.tuple #[])/\∃v rs',LB w B q y {y with v:=v,rs:=rs'} w'/\rs'.map (·.nd)=QA y.l i
theorem zS(i:Int)(w:World)(hwf:WF y.d)(hi:lA y.l i=true)(h:Rf w B q y):fA 119 #[iA q,aA i] w (Cr w B q y i):=by
 have M:Hid (EB y.l):=Zh hwf.VC;have HT:Hid (Tr (fun z=>lA y.l z=true) (yA y.l) (xA y.l)):=Zh hwf.tr;have am:=Zh hwf;have H:=Zh h;have hl:y.rs.length<=1000:=(by have:=hwf.xG;rw[show y.d.l=y.l from rfl,MD] at this;omega);obtain⟨k,W,hy,_⟩:=FC M hi;have C:=(IG M W hy).2.1;obtain⟨b,o,cl,A,n,Y,Z,n2,c2,hv,D,hb,d0,L,ab,ac⟩:=h.bG W;have an:=Zh ab;have ad:=Zh ac;have HY:=Zh hy;obtain⟨nl,a8⟩:=qA y.rs.length;have ae:=Zh a8;have b5:k<nl:=cA;have b6:nl<=1000:=cA;rw[a8] at d0 D;obtain⟨m,hm⟩:=qA (y.rs[k].nd);have HM:=Zh hm;rw[hm] at L C hy;have HP:=Zh C;have HI:=Zh hi;have l0:=L.c0;have l1:=L.c1;have l2:=L.c2;have l3:=L.c3;have l4:=L.c4;have l5:=L.c5;have l6:=L.c6;have l7:=L.c7;have b1:=FA h.mA;clear h hv ab ac a8 hm C L hwf hi hy;go_enter func119,ntmps119;go_upto_region 0 with fail;go_cut [4] (fun s4 wx=>s4 = iA w.heap.size/\Hid (eA w wx)/\Hid (LA wx w.heap.size m A n Y Z n2 c2))
 case first=>
  go_region_held3 (fun w'=>w'.cell? (dA q 0)=some (.slice (some (dA b o)) nl cl)/\w'.cell? ⟨b,o+k*8,none⟩=some (aA m.id)/\w'.cell? ⟨b,o+k*8+1,none⟩=some (aA m.par)/\w'.cell? ⟨b,o+k*8+2,none⟩=some (bA m.tag)/\w'.cell? ⟨b,o+k*8+3,none⟩=some (bA m.txt)/\w'.cell? ⟨b,o+k*8+4,none⟩=some (bA m.key)/\w'.cell? ⟨b,o+k*8+5,none⟩=some (.slice A n Y)/\w'.cell? ⟨b,o+k*8+6,none⟩=some (.slice Z n2 c2)/\w'.cell? ⟨b,o+k*8+7,none⟩=some (aA m.note)) (go_keep) ((first
  |(go_at_call 26;refine zA (rB i _ M hl W HY (by exact H.drewN _)) ?_)
  |(go_at_call 26;refine zA (rB i _ M hl W HY (by exact(H.alloc _).drewN _)) ?_)
  |fail))
  all_goals
   go_wp2_with fail;go_meet;exact⟨rfl,Zh ((Zb _ _).drew),Zh (heap_drew (LA.new w m A n Y Z n2 c2))⟩
 case rest=>
  obtain⟨rfl,B1,N1⟩:=hcut;obtain⟨c,rfl⟩:∃c,c=wc:=⟨_,rfl⟩;have e1:=N1.c1;have ao:w.heap.size<c.heap.size:=N1.lt;clear d0 l0 l1 l2 l3 l4 l5 l6 l7 D hb;by_cases t:m.par=0
  ·have HE:Hid (QA y.l i=y.l):=Zh (by unfold QA;rw[HP.out,if_pos t]);have ap:(m.par==0)=true:=(by simpa using t);clear t;go_wp2_with fail;refine bodyPost_ret (results_none rfl _ _ _) rfl ?_;exact⟨rfl,y.v,y.rs,LB.sC H B1,HE.symm⟩
  ·have ap:(m.par==0)=false:=(by simpa using t);have af:lA y.l m.par=true:=(by rw[<-HP.out];exact HT.DH (by rw[HP.out];exact t));obtain⟨k2,d,P,_⟩:=FC M af;have a9:=Zh P;have b7:=Zh (IG M d P).2.2;have ag:k2≠k:=by
    rintro rfl;refine HT.MK (x:=i) (j:=0) (HT.SF HI) ?_;show yA y.l i=i;rw[HP.out,<-P,HY.out]
   have ah:=Zh ag;have HE:Hid (QA y.l i=iB (iB y.l m.par (ZC (less i))) i (rD 0)):=Zh (by unfold QA;rw[HP.out,if_neg t]);have H1:=Zh (H.below B1);have aq:y.rs[k2].nd.kids.length<=1000:=(by have:=am.vM (x:=y.rs[k2].nd) (List.mem_map.2 ⟨_,List.getElem_mem d,rfl⟩);omega);obtain⟨b,o,cl,N,O,a,E,n2p,F,hv,D,hb,d0,L,X,G⟩:=H1.bG d;have OK:kI.Own w B (.slice E n2p F) y.rs[k2].nd.kids:=(by have:=(H.nodes _ (List.getElem_mem d)).kids;rw[G] at this;exact this);have ai:=Zh X;have b2:=Zh G;obtain⟨g1,g2,g3,g4,g5⟩:=qG OK rfl;have b8:=Zh OK;have HK:=Zh g5;have HN:=Zh g1;rw[ae.out] at d0 D;have b3:k2<nl:=(uA ae.out);obtain⟨s,Q⟩:=qA (y.rs[k2].nd);have I:=Zh Q;rw[Q] at L aq;have b4:n2p<=1000:=(by have:=HN.out;rw[Q] at this;omega);have l0:=L.c0;have l1:=L.c1;have l2:=L.c2;have l3:=L.c3;have l4:=L.c4;have l5:=L.c5;have l6:=L.c6;have l7:=L.c7;have ar:q<c.heap.size:=cA;clear t af P ag hv X G OK g1 g2 g3 g4 g5 Q L;go_upto_region 2 with fail;go_cut [5] (fun s5 wx=>s5 = iA c.heap.size/\Hid (eA c wx)/\Hid (LA wx c.heap.size s N O a E n2p F))
   case first=>
    go_region_held3 (fun w'=>w'.cell? (dA q 0)=some (.slice (some (dA b o)) nl cl)/\w'.cell? ⟨b,o+k2*8,none⟩=some (aA s.id)/\w'.cell? ⟨b,o+k2*8+1,none⟩=some (aA s.par)/\w'.cell? ⟨b,o+k2*8+2,none⟩=some (bA s.tag)/\w'.cell? ⟨b,o+k2*8+3,none⟩=some (bA s.txt)/\w'.cell? ⟨b,o+k2*8+4,none⟩=some (bA s.key)/\w'.cell? ⟨b,o+k2*8+5,none⟩=some (.slice N O a)/\w'.cell? ⟨b,o+k2*8+6,none⟩=some (.slice E n2p F)/\w'.cell? ⟨b,o+k2*8+7,none⟩=some (aA s.note)/\w'.cell? ⟨w.heap.size,1,none⟩=some (aA m.par)) (go_keep) ((first
  |(go_at_call 26;refine zA (rB m.par _ M hl d a9 (by exact H1.drewN _)) ?_)
  |(go_at_call 26;refine(rB m.par _ M hl d a9 (by exact(H1.alloc _).drewN _)).mono ?_;rintro e w3 ⟨rfl,rfl⟩)
  |fail))
    all_goals
     go_wp2_with fail;go_meet;exact⟨rfl,Zh ((Zb _ _).drew),Zh (heap_drew (LA.new c s N O a E n2p F))⟩
   case rest=>
    obtain⟨rfl,B2,N2⟩:=hcut;obtain⟨u,rfl⟩:∃u,u=wc:=⟨_,rfl⟩;have au:c.heap.size<u.heap.size:=N2.lt;clear d0 l0 l1 l2 l3 l4 l5 l6 l7 D hb e1;go_wp2_with fail;go_loopw [6,7] (fun s6 s7 wr=>∃j:Nat,j<=n2p/\s7 = aA j/\Hid (kI.Own wr u.heap.size s6 (less i (y.rs[k2].nd.kids.take j)))/\Hid (eA u wr)) (fun _ s7 _=>n2p-(intOf s7).toNat)
    case atStart=>exact⟨0,by omega,rfl,Zh (by simpa[less] using Kind.Own.nil kI u u.heap.size),Zh Ze⟩
    case round=>
     obtain⟨j,hj,rfl,HO,HW⟩:=hrel;obtain⟨f,p,r,rfl,h6,_⟩:=HO.slice;have av:=HW.size;have aa:Hid (eA w wr):=Zh ((B1.trans (B2.mono cA)).trans (HW.mono cA));have N3:Hid (LA wr c.heap.size s N O a E n2p F):=Zh (N2.below HW au);have e6:=N3.c6;by_cases aw:j<n2p
     ·have aj:j<y.rs[k2].nd.kids.length:=(uA HN.out);obtain⟨gb,go,rfl,_,hc⟩:=mD (HK.on aa) aj;have ak:=Zh (jh (i:=i) aj);have HL:Hid ((less i (y.rs[k2].nd.kids.take j)).length<=1000):=Zh (Nat.le_trans (List.length_filter_le _ _) (by rw[List.length_take];omega));clear h6;by_cases he:y.rs[k2].nd.kids[j]=i
      ·have hq:(y.rs[k2].nd.kids[j] != i)=false:=(by simpa using he);have R:Hid (less i (y.rs[k2].nd.kids.take (j+1))=less i (y.rs[k2].nd.kids.take j)):=Zh (by rw[ak.out,if_pos he]);clear he;go_wp2_with fail;go_roundw
       case rel=>exact⟨j+1,by omega,by go_num,Zh (by rw[R.out];exact HO),HW⟩
       case measure=>simp[intOf];omega
      ·have hq:(y.rs[k2].nd.kids[j] != i)=true:=(by simpa using he);have R:Hid (less i (y.rs[k2].nd.kids.take (j+1))=less i (y.rs[k2].nd.kids.take j)++[y.rs[k2].nd.kids[j]]):=Zh (by rw[ak.out,if_neg he]);clear he;generalize y.rs[k2].nd.kids[j]=kd at hc hq R;go_wp2_with (at_builtin;refine kI.iC rfl _ _ rfl (v:=.slice f p r) (l:=less i (y.rs[k2].nd.kids.take j)) (m:=[kd]) (B:=u.heap.size) rfl (HO.alloc _) rfl rfl RB (Kind.pA.lit (heap_alloc_new _ _) rfl) (by have:=HL.out;simp;omega) AA ?_;intro v' w3 J K ax;obtain⟨A7,n7,c7,rfl,_,_,_,_,_⟩:=J.slice);have ay:Hid (kI.Own w3 u.heap.size (.slice A7 n7 c7) (less i (y.rs[k2].nd.kids.take (j+1)))):=Zh (by rw[R.out];exact J);have az:Hid (eA u w3):=Zh ((HW.alloc av _).grown K AA (fun k W=>(HO.lt W).1));clear J K ax;go_wp2_with fail;go_roundw
       case rel=>exact⟨j+1,by omega,by go_num,ay,az⟩
       case measure=>simp[intOf];omega
     ·obtain rfl:j=n2p:=cA
      have al:Hid (kI.Own wr u.heap.size (.slice f p r) (less i y.rs[k2].nd.kids)):=Zh (by have:=HO.out;rwa[<-HN.out,List.take_length] at this);have f6:=N3.frozen 6;clear h6 aw;have S:Hid (LA (wr.setCell ⟨c.heap.size,6,none⟩ (.slice f p r)) c.heap.size (ZC (less i) s) N O a f p r):=Zh (heap_set N3 6 (.slice f p r));have B4:Hid (eA w (wr.setCell ⟨c.heap.size,6,none⟩ (.slice f p r))):=Zh (Below.setCell aa (by show w.heap.size<=c.heap.size;omega) _);have O4:Hid (kI.Own (wr.setCell ⟨c.heap.size,6,none⟩ (.slice f p r)) u.heap.size (.slice f p r) (less i y.rs[k2].nd.kids)):=Zh (al.sB fun g hg=>Below.heap_setCell _ _ _ _ (by have:=(al.lt hg).1;simp only[ne_eq];omega));have M4:Hid (LA (wr.setCell ⟨c.heap.size,6,none⟩ (.slice f p r)) w.heap.size m A n Y Z n2 c2):=Zh ((Below.heap_setCell wr ⟨c.heap.size,6,none⟩ (.slice f p r) w.heap.size (by simp only;omega)).trans ((N1.below B2 ao).below HW cA));have Z4:(wr.setCell ⟨c.heap.size,6,none⟩ (.slice f p r)).heap.size=wr.heap.size:=(by simp[World.setCell]);go_upto_region 10 with fail;generalize wr.setCell ⟨c.heap.size,6,none⟩ (.slice f p r)=W4 at S B4 O4 M4 Z4|-;clear N3 e6 f6 HO aa;have a0:=S.c0;have a1:=S.c1;have a2:=S.c2;have a3:=S.c3;have a4:=S.c4;have a5:=S.c5;have a6:=S.c6;have a7:=S.c7;go_wp2_with fail;refine(iK k2 (ZC (less i) s) N O a f p r W4 M hl d (by rw[I.out];rfl) ⟨by
       have:=((H.nodes _ (List.getElem_mem d)).mB).below B4;rw[ai.out,I.out] at this;exact this,by have:=O4.dE (B':=B) (uA H.base);rw[I.out] at this;exact this⟩ (H.below B4)).mono ?_
      rintro e w5 ⟨rfl,v5,r5⟩;have R5:=Zh r5;have D5:=Zh (r5.AI B4 (fun g hg=> .inr (uA ((O4.lt hg).1))));have NF:=Zh (show¬cD q {y with v:=v5,rs:=y.rs.set k2 ⟨⟨N,O,a⟩,⟨f,p,r⟩,ZC (less i) s⟩} w.heap.size from fun hf=>by
       rcases R5.ft _ hf with e|e|e
       ·have:=H.lt e;omega
       ·have:=(O4.lt e).1;omega
       ·omega)
      have N5:Hid (LA w5 w.heap.size m A n Y Z n2 c2):=Zh ((r5.but.block _ M4.lt (fun e=>by omega)).trans M4);have e1:=N5.c1;have f1:=N5.frozen 1;have D6:=Zh (D5.iL Zl NF N5.eD 1 (aA 0));have T:Hid (LA (w5.setCell ⟨w.heap.size,1,none⟩ (aA 0)) w.heap.size (rD 0 m) A n Y Z n2 c2):=Zh (heap_set N5 1 (aA 0));clear r5 a0 a1 a2 a3 a4 a5 a6 a7;go_upto_region 12 with fail;generalize w5.setCell ⟨w.heap.size,1,none⟩ (aA 0)=W6 at T D6|-;clear e1 f1 N5 D5 R5 NF;have a0:=T.c0;have a1:=T.c1;have a2:=T.c2;have a3:=T.c3;have a4:=T.c4;have a5:=T.c5;have a6:=T.c6;have a7:=T.c7;have U:k<(y.rs.set k2 ⟨⟨N,O,a⟩,⟨f,p,r⟩,ZC (less i) s⟩).length:=(by simpa using W);have V:(y.rs.set k2 ⟨⟨N,O,a⟩,⟨f,p,r⟩,ZC (less i) s⟩)[k]=y.rs[k]:=List.getElem_set_ne ah _;have TS:=Sn M (k:=k) (k2:=k2) (by rw[MD];exact W) (by rw[MD];exact d) ah (ZC (less i)) (rD 0) (fun _=>rfl);simp only[Rx.l,List.getElem_map,I.out,HM.out,show s.id=m.par by rw[<-I.out];exact a9.out,show m.id=i by rw[<-HM.out];exact HY.out] at TS;go_wp2_with fail;refine(iK (y:={y with v:=v5,rs:=y.rs.set k2 ⟨⟨N,O,a⟩,⟨f,p,r⟩,ZC (less i) s⟩}) k (rD 0 m) A n Y Z n2 c2 W6 (by show EB ((y.rs.set k2 _).map (·.nd));rw[List.map_set];exact TS.2) (by simpa using hl) U (by show((y.rs.set k2 _)[k]).nd.id=_;rw[V,HM.out];rfl) ⟨by
       have:=(D6.rf.nodes _ (List.getElem_mem U)).mB;rw[V,an.out,HM.out] at this;exact this,by
       have:=(D6.rf.nodes _ (List.getElem_mem U)).kids;rw[V,ad.out,HM.out] at this;exact this⟩ D6.rf).mono ?_
      rintro e w7 ⟨rfl,v7,r7⟩;have R7:=Zh (D6.trans (r7.AI Ze (fun g hg=> .inl (.inr (.inr ⟨_,List.getElem_mem U,by rw[V,ad.out];exact hg⟩)))));have b0:=Zh TS.1;clear r7 TS;go_wp2_with fail
      go_end0
      refine⟨rfl,v7,_,R7,?_⟩;show(((y.rs.set k2 _).set k _).map (·.nd))=_;rw[List.map_set,List.map_set,HE.out];exact b0
variable{B q:Nat}{y:Rx}
def gC(w:World)(B q:Nat)(y:Rx)(c:Int)(d:D)(e:Ending)(w':World):Prop:=e= .returned (aA c)/\∃y',LB w B q y y' w'/\y'.d=d
theorem gC.same{w w':World}{c:Int}{d:D}(h:Rf w B q y)(hb:eA w w')(hd:y.d=d):gC w B q y c d (.returned (aA c)) w':=⟨rfl,y,LB.sC h hb,hd⟩
theorem Rf.Bc{w:World}(h:Rf w B q y)(j:Nat)(u:Value):kN.Own (w.setCell (dA q j) u) B y.v (y.rs.map Rn.rn)/\∀r∈y.rs,YI (w.setCell (dA q j) u) B r:=by
 have a:gA (fun k=>k=q) w (w.setCell (dA q j) u):=gA.setCell (S:=fun k=>k=q) (p:=(dA q j)) (gA.refl _ _) (fun _=>rfl) u;refine⟨h.own.sB fun g b=>a.block g (h.own.lt b).2 ?_,fun r c=>⟨(h.nodes r c).mB.but a (oK h),(h.nodes r c).kids.sB fun g b=>a.block g ((h.nodes r c).kids.lt b).2 ?_⟩⟩
 ·rintro rfl;obtain⟨d,e⟩:=h.own.ty b;exact RA e h.mA nA rfl
 ·rintro rfl;obtain⟨d,e⟩:=(h.nodes r c).kids.ty b;exact RA e h.mA nA rfl
theorem Rf.focus{w:World}(h:Rf w B q y)(i:Int):LB w B q y {y with foc:=i} (w.setCell (dA q 3) (aA i)):=by
 obtain⟨a,b⟩:=h.Bc 3 (aA i);exact⟨⟨heap_set h.mA 3 _,h.base,a,b⟩,gA.setCell (S:=fun k=>k=q) (p:=(dA q 3)) (gA.refl _ _) (fun _=>rfl) _,fun k c=> .inl c⟩
theorem Rf.next{w:World}(h:Rf w B q y)(i:Int):LB w B q y {y with n:=i} (w.setCell (dA q 1) (aA (i+1))):=by
 obtain⟨a,b⟩:=h.Bc 1 (aA (i+1));exact⟨⟨heap_set h.mA 1 _,h.base,a,b⟩,gA.setCell (S:=fun k=>k=q) (p:=(dA q 1)) (gA.refl _ _) (fun _=>rfl) _,fun k c=> .inl c⟩
theorem WN(ha:EB y.l){k:Nat}{i:Int}(hk:k<y.rs.length)(hy:y.rs[k].nd.id=i)(f:Nd->Nd){r:Rn}(hr:r.nd=f y.rs[k].nd):(y.rs.set k r).map (·.nd)=iB y.l i f:=by
 rw[List.map_set,hr];have:=ha.lQ (k:=k) (by rw[MD];exact hk) f;simp only[Rx.l,List.getElem_map] at this;rw[this,hy];rfl
theorem JL.made{w0 w w':World}{r:Rn}{v:Value}{k:Nat}{i:Int}(h:JL w B q y {y with v:=v,rs:=y.rs.set k r} r w')(hb:eA w0 w)(hg:∀g,r.vk.val.ownBlock=some g->cD q y g)(ha:EB y.l)(hk:k<y.rs.length)(hy:y.rs[k].nd.id=i)(f:Nd->Nd)(hr:r.nd=f y.rs[k].nd):
 ∃y',LB w0 B q y y' w'/\y'.d = {y.d with l:=iB y.l i f}:=by
 refine⟨_,h.AI hb (fun g e=> .inl (hg g e)),?_⟩;show D.mk ((y.rs.set k r).map (·.nd)) _ _ _=D.mk _ _ _ _;rw[WN ha hk hy f hr];rfl
theorem YI.below{w w':World}{r:Rn}(h:YI w B r)(hb:eA w w'):YI w' B r:=⟨h.mB.below hb,h.kids.sB fun g a=>hb.block g (h.kids.lt a).2⟩
theorem Ue(i:Int)(w:World)(ha:EB y.l)(hl:y.rs.length<=1000)(h:Rf w B q y):fA 8 #[iA q,aA i] w (gC w B q y (vE y.d i).1 (vE y.d i).2):=by
 have H:=Zh h;have d:=Zh ha;have m:=h.c3;have n:=h.frozen 3;by_cases a:i=0
 ·have f:(i != 0)=false:=(by simpa using a);have b:Hid (vE y.d i=(0,{y.d with foc:=i})):=Zh (by unfold vE;rw[if_neg (fun e=>e.1 a)]);clear h ha a;go_enter func8,ntmps8;go_wp2_with fail;go_ret;rw[b.out];exact⟨rfl,_,H.focus i,rfl⟩
 ·have f:(i != 0)=true:=(by simpa using a);cases hi:lA y.l i with
  |false=>
   have b:Hid (vE y.d i=(2,y.d)):=Zh (by unfold vE;rw[if_pos ⟨a,hi⟩]);have g:=Zh hi;clear h ha a hi;go_enter func8,ntmps8;go_wp2_with fail;refine zA (yH i w hl g H) ?_;go_wp2_with fail;go_ret;rw[b.out];exact gC.same H Ze rfl
  |true=>
   have b:Hid (vE y.d i=(0,{y.d with foc:=i})):=Zh (by unfold vE;rw[if_neg (fun e=>by have:=e.2;rw[show y.d.l=y.l from rfl,hi] at this;cases this)]);obtain⟨k,j,c,_⟩:=FC ha hi;have l:=Zh c;clear h ha a hi c;go_enter func8,ntmps8;go_wp2_with fail;refine zA (rB i w d hl j l H) ?_;go_wp2_with fail;go_ret;rw[b.out];exact⟨rfl,_,H.focus i,rfl⟩
def Ts(w:World)(R:Nat)(e:Ending)(w':World):Prop:=∃(q:Nat) (y:Rx),e= .returned (iA q)/\Rf w' w.heap.size q y/\y.d=ME R/\eA w w'
def Cc:Nd:=GC 1 ⟨#[114,111,111,116]⟩ ⟨#[]⟩ ⟨#[]⟩
theorem VT(R:Nat)(w:World):fA 21 #[aA R] w (Ts w R):=by
 go_enter func21,ntmps21;go_wp2_with fail;go_ret;have b:kN.Own (w.alloc (.cells #[aA 1,aA 0,bA ⟨#[114,111,111,116]⟩,tA,tA,vA,vA,aA 0] 53)) w.heap.size (.slice (some ⟨w.heap.size,0,none⟩) 1 1) ([(⟨⟨none,0,0⟩,⟨none,0,0⟩,Cc⟩:Rn)].map Rn.rn):=
  Kind.wG (K:=kN) (cur:=#[aA 1,aA 0,bA ⟨#[114,111,111,116]⟩,tA,tA,vA,vA,aA 0]) rfl Zl (heap_alloc_new w _) Zl wD rfl rfl
 refine⟨w.heap.size+1,⟨.slice (some ⟨w.heap.size,0,none⟩) 1 1,1,R,0,[⟨⟨none,0,0⟩,⟨none,0,0⟩,Cc⟩]⟩,rfl,⟨lD DA,by omega,b.alloc _,fun r a=>?_⟩,rfl,(Zb _ _).alloc DA _⟩;rw[List.mem_singleton] at a;subst a;exact⟨nB.yI _,Kind.Own.nil _ _ _⟩
def bB(w:World)(g:Nat)(r:Rc)(A:jA)(n c:Nat):Prop:=w.heap[g]? = some (.cells (JA r A n c) 87 (0,0))
section
variable{w w':World}{g:Nat}{r:Rc}{A:jA}{n c:Nat}
theorem bB.new(w:World)(r:Rc)(A:jA)(n c:Nat):bB (w.alloc (.cells (JA r A n c) 87)) w.heap.size r A n c:=heap_alloc_new w _
theorem bB.below{C:Nat}(h:bB w g r A n c)(hb:Below C w w')(hC:g<C):bB w' g r A n c:=(hb.block g hC).trans h
theorem bB.lt(h:bB w g r A n c):g<w.heap.size:=FA h
theorem bB.c0(h:bB w g r A n c):w.cell? (dA g 0)=some (aA r.op):=cell_of_row w g 0 _ _ (0,0) h
theorem bB.c1(h:bB w g r A n c):w.cell? (dA g 1)=some (aA r.id):=cell_of_row w g 1 _ _ (0,0) h
theorem bB.c2(h:bB w g r A n c):w.cell? (dA g 2)=some (aA r.par):=cell_of_row w g 2 _ _ (0,0) h
theorem bB.c3(h:bB w g r A n c):w.cell? (dA g 3)=some (aA r.rA):=cell_of_row w g 3 _ _ (0,0) h
theorem bB.c4(h:bB w g r A n c):w.cell? (dA g 4)=some (bA r.tag):=cell_of_row w g 4 _ _ (0,0) h
theorem bB.c5(h:bB w g r A n c):w.cell? (dA g 5)=some (bA r.txt):=cell_of_row w g 5 _ _ (0,0) h
theorem bB.c6(h:bB w g r A n c):w.cell? (dA g 6)=some (bA r.key):=cell_of_row w g 6 _ _ (0,0) h
theorem bB.c7(h:bB w g r A n c):w.cell? (dA g 7)=some (.slice A n c):=cell_of_row w g 7 _ _ (0,0) h
end
variable{B q:Nat}{y:Rx}
theorem Un(r:Rc)(A:jA)(n c:Nat)(w:World)(ha:EB y.l)(hl:y.rs.length<=1000)(hi:lA y.l r.id=false)(h:Rf w B q y):fA 90 #[iA q,.agg (JA r A n c)] w (gC w B q y 2 y.d):=by
 have b:Hid (eA w (w.alloc (.cells (JA r A n c) 87))):=Zh (Zb _ _);have a:=Zh (bB.new w r A n c);have d:=Zh h;have g:=Zh ha;have f:=Zh hi;clear h;go_enter func90,ntmps90;go_upto_region 1 with fail;generalize w.alloc (.cells (JA r A n c) 87)=W at b a|-;have H:=Zh (d.below b);have i:=a.c1;have j:=a.c2;have k:=a.c3;go_wp2_with fail;refine zA (yH r.id W hl f H) ?_;go_wp2_with fail;go_ret;exact gC.same d b rfl
theorem Vn(r:Rc)(A:jA)(n c:Nat)(w:World)(ha:EB y.l)(hl:y.rs.length<=1000)(hi:lA y.l r.id=true)(hp:lA y.l r.par=false)(h:Rf w B q y):fA 90 #[iA q,.agg (JA r A n c)] w (gC w B q y 2 y.d):=by
 have f:Hid (eA w (w.alloc (.cells (JA r A n c) 87))):=Zh (Zb _ _);have d:=Zh (bB.new w r A n c);have i:=Zh h;have j:=Zh ha;obtain⟨l,g,a,_⟩:=FC ha hi;have b:=Zh a;have k:=Zh hp;clear h;go_enter func90,ntmps90;go_upto_region 1 with fail;generalize w.alloc (.cells (JA r A n c) 87)=W at f d|-;have H:=Zh (i.below f);have m:=d.c1;have o:=d.c2;have p:=d.c3;go_wp2_with fail;refine zA (rB r.id W j hl g b H) ?_;go_wp2_with fail;refine zA (yH r.par W hl k H) ?_;go_wp2_with fail;go_ret;exact gC.same i f rfl
theorem Xn(r:Rc)(A:jA)(n c:Nat)(w:World)(ha:EB y.l)(hl:y.rs.length<=1000)(hi:lA y.l r.id=true)(hp:lA y.l r.par=true)(hq:(r.rA != 0)=true)(hb:lA y.l r.rA=false)(h:Rf w B q y):fA 90 #[iA q,.agg (JA r A n c)] w (gC w B q y 2 y.d):=by
 have i:Hid (eA w (w.alloc (.cells (JA r A n c) 87))):=Zh (Zb _ _);have g:=Zh (bB.new w r A n c);have l:=Zh h;have m:=Zh ha;obtain⟨p,j,a,_⟩:=FC ha hi;have b:=Zh a;obtain⟨s,k,d,_⟩:=FC ha hp;have f:=Zh d;have o:=Zh hb;clear h;go_enter func90,ntmps90;go_upto_region 1 with fail;generalize w.alloc (.cells (JA r A n c) 87)=W at i g|-;have H:=Zh (l.below i);have t:=g.c1;have u:=g.c2;have v:=g.c3;go_wp2_with fail;refine zA (rB r.id W m hl j b H) ?_;go_wp2_with fail;refine zA (rB r.par W m hl k f H) ?_;go_wp2_with fail;refine zA (yH r.rA W hl o H) ?_;go_wp2_with fail;go_ret;exact gC.same l i rfl
theorem Yn(r:Rc)(A:jA)(n c:Nat)(w:World)(ha:EB y.l)(hl:y.rs.length<=1000)(hi:lA y.l r.id=true)(hp:lA y.l r.par=true)(hq:(r.rA != 0)=false)(h1:(r.id==1)=true)(h:Rf w B q y):fA 90 #[iA q,.agg (JA r A n c)] w (gC w B q y 4 y.d):=by
 have i:Hid (eA w (w.alloc (.cells (JA r A n c) 87))):=Zh (Zb _ _);have g:=Zh (bB.new w r A n c);have l:=Zh h;have m:=Zh ha;obtain⟨o,j,a,_⟩:=FC ha hi;have b:=Zh a;obtain⟨p,k,d,_⟩:=FC ha hp;have f:=Zh d;clear h;go_enter func90,ntmps90;go_upto_region 1 with fail;generalize w.alloc (.cells (JA r A n c) 87)=W at i g|-;have H:=Zh (l.below i);have s:=g.c1;have t:=g.c2;have u:=g.c3;go_wp2_with fail;refine zA (rB r.id W m hl j b H) ?_;go_wp2_with fail;refine zA (rB r.par W m hl k f H) ?_;go_wp2_with fail;go_ret;exact gC.same l i rfl
theorem eo(r:Rc)(A:jA)(n c:Nat)(w:World)(ha:EB y.l)(hl:y.rs.length<=1000)(hi:lA y.l r.id=true)(hp:lA y.l r.par=true)(hq:(r.rA != 0)=true)(hb:lA y.l r.rA=true)(h1:(r.id==1)=true)(h:Rf w B q y):fA 90 #[iA q,.agg (JA r A n c)] w (gC w B q y 4 y.d):=by
 have k:Hid (eA w (w.alloc (.cells (JA r A n c) 87))):=Zh (Zb _ _);have j:=Zh (bB.new w r A n c);have s:=Zh h;have l:=Zh ha;obtain⟨t,m,a,_⟩:=FC ha hi;have b:=Zh a;obtain⟨u,o,d,_⟩:=FC ha hp;have f:=Zh d;obtain⟨v,p,g,_⟩:=FC ha hb;have i:=Zh g;clear h;go_enter func90,ntmps90;go_upto_region 1 with fail;generalize w.alloc (.cells (JA r A n c) 87)=W at k j|-;have H:=Zh (s.below k);have x:=j.c1;have z:=j.c2;have C:=j.c3;go_wp2_with fail;refine zA (rB r.id W l hl m b H) ?_;go_wp2_with fail;refine zA (rB r.par W l hl o f H) ?_;go_wp2_with fail;refine zA (rB r.rA W l hl p i H) ?_;go_wp2_with fail;go_ret;exact gC.same s k rfl
theorem jo(r:Rc)(A:jA)(n c:Nat)(w:World)(ha:EB y.l)(hl:y.rs.length<=1000)(hi:lA y.l r.id=true)(hp:lA y.l r.par=true)(hq:(r.rA != 0)=false)(h1:(r.id==1)=false)(hnk:wB (MA y.l r.par)=true)(h:Rf w B q y):fA 90 #[iA q,.agg (JA r A n c)] w (gC w B q y 3 y.d):=by
 have D:Hid (eA w (w.alloc (.cells (JA r A n c) 87))):=Zh (Zb _ _);have l:=Zh (bB.new w r A n c);have E:=Zh h;have p:=Zh ha;obtain⟨ki,M,s,_⟩:=FC ha hi;have t:=Zh s;clear h;go_enter func90,ntmps90;go_upto_region 1 with fail;generalize w.alloc (.cells (JA r A n c) 87)=W at D l|-;have H:=Zh (E.below D);have X:=l.c1;have Y:=l.c2;have Z:=l.c3;obtain⟨k,f,hy,_⟩:=FC p hp;obtain⟨b,o,cl,F,G,I,u,v,x,N,O,hb,R,L,d,a⟩:=H.bG f;have a0:=Zh d;have a1:=Zh a;have J:=Zh hy;obtain⟨nl,i⟩:=qA y.rs.length;have a3:=Zh i;have a4:k<nl:=cA;have a5:nl<=1000:=cA;rw[i] at R O;obtain⟨m,z⟩:=qA (y.rs[k].nd);have HM:=Zh z;rw[z] at L;have l0:=L.c0;have l1:=L.c1;have l2:=L.c2;have l3:=L.c3;have l4:=L.c4;have l5:=L.c5;have l6:=L.c6;have l7:=L.c7;have S:=FA H.mA;have C:∀g,(Value.slice u v x).ownBlock=some g->cD q y g:=fun g hg=> .inr (.inr ⟨_,List.getElem_mem f,by rw[a];exact hg⟩)
 have a6:=Zh C;have P:=H.nodes _ (List.getElem_mem f);rw[show y.rs[k]=(⟨⟨F,G,I⟩,⟨u,v,x⟩,m⟩:Rn) by cases e:y.rs[k];rw[e] at d a z;cases d;cases a;cases z;rfl] at P;have HR:=Zh P;clear N d a i z L C P;have Q:Hid (wB m.tag=true):=Zh (by rw[<-HM.out,<-(IG p.out f J.out).1];exact hnk);clear hnk;go_wp2_with fail;refine zA (rB r.id W p hl M t H) ?_;go_wp2_with fail;refine(rB r.par W p hl f J H).mono ?_;rintro e w' ⟨rfl,rfl⟩;go_upto_region 5 with fail;go_cut [5] (fun s5 T=>s5 = iA W.heap.size/\Hid (eA W T)/\Hid (LA T W.heap.size m F G I u v x))
 case first=>
  go_region_held3 (fun w'=>w'.cell? (dA q 0)=some (.slice (some (dA b o)) nl cl)/\w'.cell? ⟨b,o+k*8,none⟩=some (aA m.id)/\w'.cell? ⟨b,o+k*8+1,none⟩=some (aA m.par)/\w'.cell? ⟨b,o+k*8+2,none⟩=some (bA m.tag)/\w'.cell? ⟨b,o+k*8+3,none⟩=some (bA m.txt)/\w'.cell? ⟨b,o+k*8+4,none⟩=some (bA m.key)/\w'.cell? ⟨b,o+k*8+5,none⟩=some (.slice F G I)/\w'.cell? ⟨b,o+k*8+6,none⟩=some (.slice u v x)/\w'.cell? ⟨b,o+k*8+7,none⟩=some (aA m.note)/\w'.cell? ⟨w.heap.size,2,none⟩=some (aA r.par)) (go_keep) ((first
   |(go_at_call 26;refine zA (rB r.par _ p hl f J (by exact H.drewN _)) ?_)
   |(go_at_call 26;refine zA (rB r.par _ p hl f J (by exact(H.alloc _).drewN _)) ?_)
   |fail))
  all_goals
   go_wp2_with fail;go_meet;exact⟨rfl,Zh ((Zb _ _).drew),Zh (heap_drew (LA.new W m F G I u v x))⟩
 case rest=>
  obtain⟨rfl,U,V⟩:=hcut;obtain⟨K,rfl⟩:∃K,K=wc:=⟨_,rfl⟩;clear l0 l1 l2 l3 l4 l5 l6 l7 R X Y Z;have a2:=V.c2;have j:=Zh (D.trans (U.mono D.size));have H2:=Zh (E.below j);have R2:=Zh (l.below U l.lt);have a7:W.heap.size<K.heap.size:=V.lt;go_wp2_with fail;refine zA (P1.gI m.tag K) ?_;cases tE:m.tag.toList.isEmpty with
  |true=>
   go_wp2_with fail;go_ret;exact gC.same E j rfl
  |false=>
   have N:P1.fC m.tag.data.toList=true:=by
    have:=Q.out;unfold wB at this;rcases Bool.or_eq_true _ _ |>.mp this with e | e
    ·rw[decide_eq_true_iff] at e;rw[e] at tE;cases tE
    ·exact e
   rw[N];go_wp2_with fail;go_ret;exact gC.same E j rfl
theorem lo(r:Rc)(A:jA)(n c:Nat)(w:World)(ha:EB y.l)(hl:y.rs.length<=1000)(hi:lA y.l r.id=true)(hp:lA y.l r.par=true)(hq:(r.rA != 0)=true)(hb:lA y.l r.rA=true)(h1:(r.id==1)=false)(hnk:wB (MA y.l r.par)=true)(h:Rf w B q y):fA 90 #[iA q,.agg (JA r A n c)] w (gC w B q y 3 y.d):=by
 have F:Hid (eA w (w.alloc (.cells (JA r A n c) 87))):=Zh (Zb _ _);have p:=Zh (bB.new w r A n c);have G:=Zh h;have f:=Zh ha;obtain⟨ki,O,s,_⟩:=FC ha hi;have t:=Zh s;obtain⟨kb,P,u,_⟩:=FC ha hb;have v:=Zh u;clear h;go_enter func90,ntmps90;go_upto_region 1 with fail;generalize w.alloc (.cells (JA r A n c) 87)=W at F p|-;have H:=Zh (G.below F);have b1:=p.c1;have b2:=p.c2;have b3:=p.c3;obtain⟨k,i,hy,_⟩:=FC f hp;obtain⟨b,o,cl,I,J,K,x,z,C,Q,R,hb,U,L,d,a⟩:=H.bG i;have a0:=Zh d;have a1:=Zh a;have M:=Zh hy;obtain⟨nl,j⟩:=qA y.rs.length;have a3:=Zh j;have a4:k<nl:=cA;have a5:nl<=1000:=cA;rw[j] at U R;obtain⟨m,D⟩:=qA (y.rs[k].nd);have HM:=Zh D;rw[D] at L;have l0:=L.c0;have l1:=L.c1;have l2:=L.c2;have l3:=L.c3;have l4:=L.c4;have l5:=L.c5;have l6:=L.c6;have l7:=L.c7;have V:=FA H.mA;have E:∀g,(Value.slice x z C).ownBlock=some g->cD q y g:=fun g hg=> .inr (.inr ⟨_,List.getElem_mem i,by rw[a];exact hg⟩)
 have a6:=Zh E;have S:=H.nodes _ (List.getElem_mem i);rw[show y.rs[k]=(⟨⟨I,J,K⟩,⟨x,z,C⟩,m⟩:Rn) by cases e:y.rs[k];rw[e] at d a D;cases d;cases a;cases D;rfl] at S;have HR:=Zh S;clear Q d a j D L E S;have T:Hid (wB m.tag=true):=Zh (by rw[<-HM.out,<-(IG f.out i M.out).1];exact hnk);clear hnk;go_wp2_with fail;refine zA (rB r.id W f hl O t H) ?_;go_wp2_with fail;refine zA (rB r.par W f hl i M H) ?_;go_wp2_with fail;refine(rB r.rA W f hl P v H).mono ?_;rintro e w' ⟨rfl,rfl⟩;go_upto_region 5 with fail;go_cut [5] (fun s5 X=>s5 = iA W.heap.size/\Hid (eA W X)/\Hid (LA X W.heap.size m I J K x z C))
 case first=>
  go_region_held3 (fun w'=>w'.cell? (dA q 0)=some (.slice (some (dA b o)) nl cl)/\w'.cell? ⟨b,o+k*8,none⟩=some (aA m.id)/\w'.cell? ⟨b,o+k*8+1,none⟩=some (aA m.par)/\w'.cell? ⟨b,o+k*8+2,none⟩=some (bA m.tag)/\w'.cell? ⟨b,o+k*8+3,none⟩=some (bA m.txt)/\w'.cell? ⟨b,o+k*8+4,none⟩=some (bA m.key)/\w'.cell? ⟨b,o+k*8+5,none⟩=some (.slice I J K)/\w'.cell? ⟨b,o+k*8+6,none⟩=some (.slice x z C)/\w'.cell? ⟨b,o+k*8+7,none⟩=some (aA m.note)/\w'.cell? ⟨w.heap.size,2,none⟩=some (aA r.par)) (go_keep) ((first
   |(go_at_call 26;refine zA (rB r.par _ f hl i M (by exact H.drewN _)) ?_)
   |(go_at_call 26;refine zA (rB r.par _ f hl i M (by exact(H.alloc _).drewN _)) ?_)
   |fail))
  all_goals
   go_wp2_with fail;go_meet;exact⟨rfl,Zh ((Zb _ _).drew),Zh (heap_drew (LA.new W m I J K x z C))⟩
 case rest=>
  obtain⟨rfl,Y,Z⟩:=hcut;obtain⟨N,rfl⟩:∃N,N=wc:=⟨_,rfl⟩;clear l0 l1 l2 l3 l4 l5 l6 l7 U b1 b2 b3;have a2:=Z.c2;have l:=Zh (F.trans (Y.mono F.size));have H2:=Zh (G.below l);have R2:=Zh (p.below Y p.lt);have a7:W.heap.size<N.heap.size:=Z.lt;go_wp2_with fail;refine zA (P1.gI m.tag N) ?_;cases tE:m.tag.toList.isEmpty with
  |true=>
   go_wp2_with fail;go_ret;exact gC.same G l rfl
  |false=>
   have Q:P1.fC m.tag.data.toList=true:=by
    have:=T.out;unfold wB at this;rcases Bool.or_eq_true _ _ |>.mp this with e | e
    ·rw[decide_eq_true_iff] at e;rw[e] at tE;cases tE
    ·exact e
   rw[Q];go_wp2_with fail;go_ret;exact gC.same G l rfl
theorem BS:∀l:List P3.At,P3.zD l l=true
 |[]=>rfl
 |a:: l=>by rw[P3.zD,P3.Oi,BS l];rfl
theorem Tn(l:List Int)(A A':jA)(n c c':Nat)(w:World)(hn:l.length=n)(hl:n<=1000000)(h1:kI.pA w w.heap.size A l)(h2:kI.pA w w.heap.size A' l):
 fA 75 #[.slice A n c,.slice A' n c'] w fun e w'=>e= .returned (.bool true)/\eA w w':=by
 have f:=Zh h1;have g:=Zh h2;have i:=Zh hn;clear h1 h2 hn;go_enter func75,ntmps75;go_wp2_with fail;go_loopw [5] (fun s wr=>∃j:Nat,j<=n/\s = aA j/\Hid (eA w wr)) (fun s _=>n-(intOf s).toNat)
 case atStart=>exact⟨0,by omega,rfl,Zh Ze⟩
 case round=>
  obtain⟨j,q,rfl,b⟩:=hrel;by_cases k:j<n
  ·have a:j<l.length:=(uA i.out);obtain⟨r,t,rfl,_,m⟩:=mD (f.on b) a;obtain⟨o,p,rfl,_,d⟩:=mD (g.on b) a;generalize l[j]=u at m d;go_wp2_with fail;go_quiet (fail);go_wp2_with fail;go_roundw
   case rel=>exact⟨j+1,by omega,by go_num,Zh (PA b _)⟩
   case measure=>simp[intOf];omega
  ·go_wp2_with fail;go_ret;exact⟨rfl,b⟩
theorem Ck(m:Nd)(A A2 A' A2':jA)(n c n2 c2 c' c2':Nat)(w:World)(hn:m.attrs.length=n)(hn2:m.kids.length=n2)(hl:n<=1000)(hl2:n2<=1000)
 (h1:kA.pA w w.heap.size A m.attrs) (h2:kI.pA w w.heap.size A2 m.kids) (h3:kA.pA w w.heap.size A' m.attrs) (h4:kI.pA w w.heap.size A2' m.kids):
 fA 41 #[.agg (XA m A n c A2 n2 c2),.agg (XA m A' n c' A2' n2 c2')] w fun e w'=>e= .returned (.bool true)/\eA w w':=by
 have g:Hid (eA w ((w.alloc (.cells (XA m A n c A2 n2 c2) 53)).alloc (.cells (XA m A' n c' A2' n2 c2') 53))):=Zh ((Zb _ _).alloc DA _);have a:Hid (LA ((w.alloc (.cells (XA m A n c A2 n2 c2) 53)).alloc (.cells (XA m A' n c' A2' n2 c2') 53)) w.heap.size m A n c A2 n2 c2):=Zh (oB (LA.new w m A n c A2 n2 c2));have b:Hid (LA ((w.alloc (.cells (XA m A n c A2 n2 c2) 53)).alloc (.cells (XA m A' n c' A2' n2 c2') 53)) (w.heap.size+1) m A' n c' A2' n2 c2'):=Zh (lD DA);have t:=Zh h1;have u:=Zh h2;have v:=Zh h3;have x:=Zh h4;have s:=Zh hn;have p:=Zh hn2;clear h1 h2 h3 h4 hn hn2;go_enter func41,ntmps41;go_upto_region 1 with fail;generalize (w.alloc (.cells (XA m A n c A2 n2 c2) 53)).alloc (.cells (XA m A' n c' A2' n2 c2') 53)=W at g a b|-;have q:=a.c5;have y:=a.c6;have r:=b.c5;have z:=b.c6;go_wp2_with fail;refine(Tn m.kids A2 A2' n2 c2 c2' W p cA (u.on g) (x.on g)).mono ?_;rintro e B ⟨rfl,i⟩;have k:=Zh (g.trans (i.mono g.size));have l:=Zh (a.below i a.lt);have o:=Zh (b.below i b.lt);clear i q y r z a b;have q:=l.c5;have r:=o.c5;go_wp2_with fail;refine(P3.lM m.attrs m.attrs A A' n n c c' B s s cA cA (UE (t.on k)) (UE (v.on k))).mono ?_;rintro e D ⟨rfl,j⟩;rw[BS];have C:=Zh (k.trans (j.mono k.size));have d:=Zh (l.below j l.lt);have f:=Zh (o.below j o.lt);clear j q r l o;have E:=d.c0;have F:=d.c1;have G:=d.c2;have H:=d.c3;have I:=d.c4;have J:=d.c7;have K:=f.c0;have L:=f.c1;have i:=f.c2;have j:=f.c3;have M:=f.c4;have N:=f.c7;go_wp2_with fail;go_ret;exact⟨rfl,C⟩
variable{B p q:Nat}{x:Dx}{y:Rx}
theorem qq{m:Nat}(w:World)(hm:x.rs.length=m)(h:Dc w B p x):fA 39 #[iA p] w fun e w'=>e= .returned (aA ((x.R:Int)-m))/\∃j,w'=w.drewN j:=by
 have H:=Zh h;have a:=Zh hm;have d:=h.c0;have f:m<=x.R:=(by have:=h.ar.len;simp at this;omega);have g:=h.ar.room;have b:Hid (∀n,fA 73 #[iA x.a] (w.drewN n) fun e w'=>e= .returned (aA x.R)/\∃k,w'=w.drewN k):=
  Zh (fun n=>(RX (w.drewN n) (H.drewN n).ar).mono fun _ _ ⟨he,hw⟩=>⟨he,n,hw.symm⟩)
 have c:Hid (∀n,fA 74 #[iA x.a] (w.drewN n) fun e w'=>e= .returned (aA m)/\∃k,w'=w.drewN k):=
  Zh (fun n=>(QX (w.drewN n) (by simp[a.out]) (H.drewN n).ar).mono fun _ _ ⟨he,hw⟩=>⟨he,n,hw.symm⟩)
 clear h hm;go_enter func39,ntmps39;go_wp2_with fail;go_quiet ((first|(go_at_call 73;exact b _)|(go_at_call 74;exact c _)));go_wp2_with fail;go_ret;exact⟨fK (by first|rfl|(rw[IntKind.wrap_i64];omega)),_,rfl⟩
theorem drewN_drewN(w:World)(k j:Nat):(w.drewN k).drewN j=w.drewN (k+j):=by simp[World.drewN,Nat.add_assoc]
theorem Te{m:Nat}(w:World)(hm:x.rs.length=m)(h:Dc w B p x)(k:Nat):fA 39 #[iA p] (w.drewN k) fun e w'=>e= .returned (aA ((x.R:Int)-m))/\∃j,w'=w.drewN j:=
 (qq (w.drewN k) hm (h.drewN k)).mono fun _ _ ⟨he,j,hw⟩=>⟨he,k+j,hw.trans (drewN_drewN w k j)⟩
theorem UT(w:World)(hwf:WF x.d)(hn:x.n<=100000)(hd:x.d=y.d)(h:Dc w B p x)(k:Rf w B q y):fA 15 #[iA p,iA q] w fun e w'=>e= .returned (aA 1)/\eA w w':=by
 have H:=Zh h;have K:=Zh k;have az:=Zh hwf;have HL:Hid (x.l=y.l):=Zh (congrArg D.l hd);obtain⟨nn,M⟩:=qA x.n;obtain⟨foc,v⟩:=qA x.foc;obtain⟨R,hR⟩:=qA x.R;obtain⟨nl,V⟩:=qA x.rs.length;have a9:=Zh M;have b0:=Zh v;have b2:=Zh hR;have N:=Zh V;have O:Hid (y.rs.length=nl):=Zh (by rw[<-V,<-MD,<-EJ,HL.out]);have aa:y.n=nn:=(by rw[<-M];exact(congrArg D.n hd).symm);have ab:y.R=R:=(by rw[<-hR];exact(congrArg D.R hd).symm);have ac:y.foc=foc:=(by rw[<-v];exact(congrArg D.foc hd).symm);have b3:=Zh aa;have b4:=Zh ab;have b5:=Zh ac;have bf:nl<=200:=(by have h1:=h.ar.len;have h2:=h.ar.room;rw[List.length_map] at h1;omega);have ad:nn<=100000:=cA;have bg:1<=nn:=(by rw[<-M];exact hwf.n0);have bh:R<=200:=(by rw[<-hR];exact hwf.room);clear h k hwf hd hn M v hR V aa ab ac;go_enter func15,ntmps15;go_wp2_with fail;refine(Tm w (uA N.out) H).mono ?_;rintro e l ⟨A1,S,c1,rfl,o1,b1⟩;obtain⟨g1,g2,g3,g4,g5⟩:=qG o1 rfl;obtain rfl:S=nl:=by rw[<-g1,<-N.out];simp[WA,Dx.l]
 have HK:=Zh g5;have B1:=Zh b1;have H1:=Zh (H.below b1);have T:=Zh (K.below b1);obtain⟨AL,cL,hv,b6,b8,hz,hh⟩:=T.slice;have d0:=T.c0;have d1:=T.c1;have d2:=T.c2;have d3:=T.c3;rw[hv,O.out] at d0;rw[b3.out] at d1;rw[b4.out] at d2;rw[b5.out] at d3;have HH:=Zh hh;have QN:Hid (∀k,fA 38 #[iA p] (l.drewN k) fun e w'=>e= .returned (aA (nn+1))/\∃m,w'=l.drewN m):=Zh (fun k=>(sH _ (by rw[a9.out];exact ad) (by rw[a9.out]) (H1.drewN k)).mono fun _ _ ⟨he,hw⟩=>⟨he,k,hw.symm⟩);have QF:Hid (∀k,fA 40 #[iA p] (l.drewN k) fun e w'=>e= .returned (aA foc)/\∃m,w'=l.drewN m):=Zh (fun k=>(aY _ (H1.drewN k)).mono fun _ _ ⟨he,hw⟩=>⟨by rw[<-b0.out];exact he,k,hw.symm⟩);have QE:Hid (∀k,fA 39 #[iA p] (l.drewN k) fun e w'=>e= .returned (aA ((R:Int)-S))/\∃m,w'=l.drewN m):=Zh (fun k=>by have:=Te l N H1 k;rw[b2.out] at this;exact this);clear o1 b1 g1 g2 g3 g4 g5 hv hh b8 hz;rw[O.out] at b6;go_wp2_with fail;go_quiet ((first|(go_at_call 38;exact QN _)|(go_at_call 40;exact QF _)|(go_at_call 39;exact QE _)));clear d0 d1 d2 d3;have B2:=Zh (PA (Below.refl l.heap.size l) nq);go_wp2_with fail;go_loopw [6] (fun s6 wr=>∃j:Nat,j<=S/\s6 = aA j/\Hid (eA l wr)) (fun s6 _=>S-(intOf s6).toNat)
 case atStart=>exact⟨0,by omega,rfl,B2⟩
 case round=>
  obtain⟨j,hj,rfl,HB⟩:=hrel;have HR:=Zh (H1.below HB);have KR:=Zh (T.below HB);have b9:=HB.size;by_cases bi:j<S
  ·have z:j<x.rs.length:=(uA N.out);have P:j<y.rs.length:=(uA O.out);obtain⟨ib,io,rfl,ae,Q⟩:=mD HK (k:=j) (by simp[WA,Dx.l];exact z);obtain⟨nd,A⟩:=qA (x.rs[j].nd);have U:(WA x.l)[j]'(by simp[WA,Dx.l];exact z)=nd.id:=(by rw[<-A];simp[WA,Dx.l]);rw[U] at Q;have af:wr.cell? ⟨ib,io+j,none⟩=some (aA nd.id):=(HB.cell (p:=(dA ib _)) ae).trans Q;have ba:=Zh Q;obtain⟨f1,f2,f3,f4,f5,f6,f7⟩:=tQ HR az z;rw[A] at f1 f2;have ag:=Zh A;have W:Hid (y.rs[j].nd=nd):=Zh (by
    have e:x.l[j]'(by rw[EJ];exact z)=y.l[j]'(by rw[MD];exact P):=by
     have:=HL.out;congr 1
    rw[<-A];simp only[Dx.l,Rx.l,List.getElem_map] at e;exact e.symm)
   clear f3 f4 f5 f6 f7 A U Q;go_wp2_with fail;refine(XP nd.id (k:=j) (nd:=nd) wr z (by rw[ag.out]) ag f1 f2 HR).mono ?_;rintro e c ⟨C,n7,E,F,n8,G,rfl,ha,ho,b7⟩;have B7:=Zh (HB.trans (b7.mono b9));have AH:=Zh (ha.below (Ze.alloc Zl (.cells #[aA nd.id,aA nd.par,bA nd.tag,bA nd.txt,bA nd.key,.slice C n7 E,.slice F n8 G,aA nd.note] 53)));have OH:=Zh (ho.alloc (.cells #[aA nd.id,aA nd.par,bA nd.tag,bA nd.txt,bA nd.key,.slice C n7 E,.slice F n8 G,aA nd.note] 53));have N7:Hid (LA (c.alloc (.cells #[aA nd.id,aA nd.par,bA nd.tag,bA nd.txt,bA nd.key,.slice C n7 E,.slice F n8 G,aA nd.note] 53)) c.heap.size nd C n7 E F n8 G):=Zh (LA.new _ _ _ _ _ _ _ _);have B8:Hid (eA l (c.alloc (.cells #[aA nd.id,aA nd.par,bA nd.tag,bA nd.txt,bA nd.key,.slice C n7 E,.slice F n8 G,aA nd.note] 53))):=Zh (B7.alloc B7.size _);clear ha ho b7 af;go_upto_region 8 with fail;generalize c.alloc (.cells #[aA nd.id,aA nd.par,bA nd.tag,bA nd.txt,bA nd.key,.slice C n7 E,.slice F n8 G,aA nd.note] 53)=r at AH OH N7 B8|-;have K8:=Zh (T.below B8);obtain⟨b,o,cl,Ay,I,cy,s,g,t,hv,ah,hb,e0,L,ai,aj⟩:=K8.bG P;rw[O.out] at e0 ah;rw[W.out] at L;have l0:=L.c0;have ic:=(B8.cell (p:=(dA ib _)) ae).trans ba;go_wp2_with fail;go_quiet (fail);have B9:=Zh (PA B8 nq);have ak:(r.drewN nq).cell? (dA q 0)=some (.slice (some (dA b o)) S cl):=e0;have X:(r.drewN nq).cell? ⟨b,o+j*8,none⟩=some (aA nd.id):=L.c0;have al:(r.drewN nq).cell? ⟨b,o+j*8+1,none⟩=some (aA nd.par):=L.c1;have am:(r.drewN nq).cell? ⟨b,o+j*8+2,none⟩=some (bA nd.tag):=L.c2;have an:(r.drewN nq).cell? ⟨b,o+j*8+3,none⟩=some (bA nd.txt):=L.c3;have ao:(r.drewN nq).cell? ⟨b,o+j*8+4,none⟩=some (bA nd.key):=L.c4;have ap:(r.drewN nq).cell? ⟨b,o+j*8+5,none⟩=some (.slice Ay I cy):=L.c5;have aq:(r.drewN nq).cell? ⟨b,o+j*8+6,none⟩=some (.slice s g t):=L.c6;have ar:(r.drewN nq).cell? ⟨b,o+j*8+7,none⟩=some (aA nd.note):=L.c7;have J:Hid (LA (r.drewN nq) c.heap.size nd C n7 E F n8 G):=Zh N7.out;have Y:=Zh (AH.drewN nq);have au:=Zh (OH.drewN nq);have Z:Hid (nB (r.drewN nq) ⟨Ay,I,cy⟩ nd.attrs):=Zh (by have:=(K8.nodes _ (List.getElem_mem P)).mB;rw[ai,W.out] at this;exact this.drewN nq);have av:Hid (kI.Own (r.drewN nq) B (.slice s g t) nd.kids):=Zh (by have:=(K8.nodes _ (List.getElem_mem P)).kids;rw[aj,W.out] at this;exact this.drewN nq);clear l0 ic e0 L hv hb ai aj;generalize r.drewN nq=u at B9 ak X al am an ao ap aq ar J Y au Z av|-;have a0:=J.c0;have a1:=J.c1;have a2:=J.c2;have a3:=J.c3;have a4:=J.c4;have a5:=J.c5;have a6:=J.c6;have a7:=J.c7;obtain⟨p1,p2,p3,p4,p5⟩:=qG au rfl;obtain⟨r1,r2,r3,r4,r5⟩:=qG av rfl;obtain rfl:g=n8:=by rw[<-r1];exact p1
   have t1:=Y.len;have t2:=Z.len;simp only at t1 t2;obtain rfl:I=n7:=by rw[<-t2];exact t1
   have bb:I<=1000:=cA;have bc:g<=1000:=cA;have P1:=Zh p1;have P5:=Zh p5;have R5:=Zh r5;have T1:=Zh t1;have bd:q<u.heap.size:=(by have:=FA K8.mA;have:=B9.size;have:=FA T.mA;omega);clear p1 p2 p3 p4 p5 r1 r2 r3 r4 r5 t1 t2;have i:b<u.heap.size:=World.block_lt_of_cell? u ⟨b,o+j*8,none⟩ X;have d:c.heap.size<u.heap.size:=J.lt;have a8:Hid (∀w',eA u w'->(w'.cell? ⟨c.heap.size,0,none⟩=some (aA nd.id)/\w'.cell? ⟨c.heap.size,1,none⟩=some (aA nd.par)/\w'.cell? ⟨c.heap.size,2,none⟩=some (bA nd.tag)/\w'.cell? ⟨c.heap.size,3,none⟩=some (bA nd.txt)/\w'.cell? ⟨c.heap.size,4,none⟩=some (bA nd.key)/\w'.cell? ⟨c.heap.size,5,none⟩=some (.slice C I E)/\w'.cell? ⟨c.heap.size,6,none⟩=some (.slice F g G)/\w'.cell? ⟨c.heap.size,7,none⟩=some (aA nd.note)/\w'.cell? (dA q 0)=some (.slice (some (dA b o)) S cl)/\w'.cell? ⟨b,o+j*8,none⟩=some (aA nd.id)/\w'.cell? ⟨b,o+j*8+1,none⟩=some (aA nd.par)/\w'.cell? ⟨b,o+j*8+2,none⟩=some (bA nd.tag)/\w'.cell? ⟨b,o+j*8+3,none⟩=some (bA nd.txt)/\w'.cell? ⟨b,o+j*8+4,none⟩=some (bA nd.key)/\w'.cell? ⟨b,o+j*8+5,none⟩=some (.slice Ay I cy)/\w'.cell? ⟨b,o+j*8+6,none⟩=some (.slice s g t)/\w'.cell? ⟨b,o+j*8+7,none⟩=some (aA nd.note))):=Zh (fun w' a=>⟨(a.cell (p:=⟨c.heap.size,0,none⟩) d).trans a0,(a.cell (p:=⟨c.heap.size,1,none⟩) d).trans a1,(a.cell (p:=⟨c.heap.size,2,none⟩) d).trans a2,(a.cell (p:=⟨c.heap.size,3,none⟩) d).trans a3,(a.cell (p:=⟨c.heap.size,4,none⟩) d).trans a4,(a.cell (p:=⟨c.heap.size,5,none⟩) d).trans a5,(a.cell (p:=⟨c.heap.size,6,none⟩) d).trans a6,(a.cell (p:=⟨c.heap.size,7,none⟩) d).trans a7,(a.cell (p:=(dA q 0)) bd).trans ak,(a.cell (p:=⟨b,o+j*8,none⟩) i).trans X,(a.cell (p:=⟨b,o+j*8+1,none⟩) i).trans al,(a.cell (p:=⟨b,o+j*8+2,none⟩) i).trans am,(a.cell (p:=⟨b,o+j*8+3,none⟩) i).trans an,(a.cell (p:=⟨b,o+j*8+4,none⟩) i).trans ao,(a.cell (p:=⟨b,o+j*8+5,none⟩) i).trans ap,(a.cell (p:=⟨b,o+j*8+6,none⟩) i).trans aq,(a.cell (p:=⟨b,o+j*8+7,none⟩) i).trans ar⟩);go_wp2_with fail;have QS:Hid (∀k,fA 41 #[.agg #[aA nd.id,aA nd.par,bA nd.tag,bA nd.txt,bA nd.key,.slice C I E,.slice F g G,aA nd.note],.agg #[aA nd.id,aA nd.par,bA nd.tag,bA nd.txt,bA nd.key,.slice Ay I cy,.slice s g t,aA nd.note]] (u.drewN k) fun e w'=>e= .returned (.bool true)/\Below (u.drewN k).heap.size (u.drewN k) w'):=Zh (fun k=>Ck nd C F Ay s I E g G cy t (u.drewN k) T1 P1 bb bc (Y.drewN k).holds P5 (Z.drewN k).holds R5);go_region_held3 (fun w'=>w'.cell? ⟨c.heap.size,0,none⟩=some (aA nd.id)/\w'.cell? ⟨c.heap.size,1,none⟩=some (aA nd.par)/\w'.cell? ⟨c.heap.size,2,none⟩=some (bA nd.tag)/\w'.cell? ⟨c.heap.size,3,none⟩=some (bA nd.txt)/\w'.cell? ⟨c.heap.size,4,none⟩=some (bA nd.key)/\w'.cell? ⟨c.heap.size,5,none⟩=some (.slice C I E)/\w'.cell? ⟨c.heap.size,6,none⟩=some (.slice F g G)/\w'.cell? ⟨c.heap.size,7,none⟩=some (aA nd.note)/\
    w'.cell? (dA q 0)=some (.slice (some (dA b o)) S cl)/\w'.cell? ⟨b,o+j*8,none⟩=some (aA nd.id)/\w'.cell? ⟨b,o+j*8+1,none⟩=some (aA nd.par)/\w'.cell? ⟨b,o+j*8+2,none⟩=some (bA nd.tag)/\w'.cell? ⟨b,o+j*8+3,none⟩=some (bA nd.txt)/\w'.cell? ⟨b,o+j*8+4,none⟩=some (bA nd.key)/\w'.cell? ⟨b,o+j*8+5,none⟩=some (.slice Ay I cy)/\w'.cell? ⟨b,o+j*8+6,none⟩=some (.slice s g t)/\w'.cell? ⟨b,o+j*8+7,none⟩=some (aA nd.note))
    (first|go_keep|exact SK) ((first
    |(go_at_call 41;refine(QS _).mono ?_;rintro e aw ⟨rfl,ax⟩;have ay:Hid (eA u aw):=Zh ((PA (Below.refl _ u) _).trans ax);have SK:=a8 aw ay;clear ax)
    |fail))
   have be:=Zh (B9.trans (ay.mono B9.size));go_wp2_with fail;go_roundw
   case rel=>exact⟨j+1,by omega,by go_num,be⟩
   case measure=>simp[intOf];omega
  ·go_wp2_with fail;go_ret;exact⟨rfl,B1.trans (HB.mono B1.size)⟩
variable{B q:Nat}{y:Rx}
theorem Qd(r:Rc)(A:jA)(n c:Nat)(w:World)(q1:(r.op==1)=false)(q2:(r.op==2)=false)(q3:(r.op==3)=false)(q4:(r.op != 4)=true)(q5:(r.op != 5)=true)(h:Rf w B q y):fA 56 #[iA q,.agg (JA r A n c)] w (gC w B q y 1 y.d):=by
 have b:Hid (eA w (w.alloc (.cells (JA r A n c) 87))):=Zh (Zb _ _);have a:=Zh (bB.new w r A n c);have d:=Zh h;clear h;go_enter func56,ntmps56;go_upto_region 1 with fail;generalize w.alloc (.cells (JA r A n c) 87)=W at b a|-;have H:=Zh (d.below b);have e:=a.c0;have f:=a.c1;have g:=a.c5;have i:=a.c7;go_wp2_with fail;go_ret;exact gC.same d b rfl
theorem Rd(r:Rc)(A:jA)(n c:Nat)(w:World)(ha:EB y.l)(hl:y.rs.length<=1000)(ht:r.txt.size<=maxLen)(q1:(r.op==1)=false)(q2:(r.op==2)=false)(q3:(r.op==3)=false)(q4:(r.op != 4)=true)(q5:(r.op != 5)=false)(q6:(r.op==4)=false)(h:Rf w B q y):fA 56 #[iA q,.agg (JA r A n c)] w (gC w B q y (GD y.d r.id r.txt).1 (GD y.d r.id r.txt).2):=by
 have x:Hid (eA w (w.alloc (.cells (JA r A n c) 87))):=Zh (Zb _ _);have a:=Zh (bB.new w r A n c);have G:=Zh h;have I:=Zh ha;clear h;cases hi:lA y.l r.id with
 |false=>
  have z:Hid (GD y.d r.id r.txt=(2,y.d)):=Zh (by unfold GD;rw[if_pos (show lA y.d.l r.id=false from hi)]);have HI:=Zh hi;clear ha hi;go_enter func56,ntmps56;go_upto_region 1 with fail;generalize w.alloc (.cells (JA r A n c) 87)=W at x a|-;have H:=Zh (G.below x);have R:=a.c0;have b1:=a.c1;have S:=a.c5;have b7:=a.c7;go_wp2_with fail;refine zA (yH r.id W hl HI H) ?_;go_wp2_with fail;go_ret;rw[z.out];exact gC.same G x rfl
 |true=>
  go_enter func56,ntmps56;go_upto_region 1 with fail;generalize w.alloc (.cells (JA r A n c) 87)=W at x a|-;have H:=Zh (G.below x);have R:=a.c0;have b1:=a.c1;have S:=a.c5;have b7:=a.c7;have hh:¬lA y.d.l r.id=false:=(by rw[show y.d.l=y.l from rfl,hi];simp);obtain⟨k,C,hy,_⟩:=FC I hi;obtain⟨b,o,cl,p,s,t,d,f,i,hv,U,hb,d0,L,u,j⟩:=H.bG C;have a9:=Zh u;have aa:=Zh j;have V:=Zh hy;obtain⟨nl,D⟩:=qA y.rs.length;have ab:=Zh D;have ac:k<nl:=cA;have ad:nl<=1000:=cA;rw[D] at d0 U;obtain⟨m,J⟩:=qA (y.rs[k].nd);have X:=Zh J;rw[J] at L;have l0:=L.c0;have l1:=L.c1;have l2:=L.c2;have l3:=L.c3;have l4:=L.c4;have l5:=L.c5;have l6:=L.c6;have l7:=L.c7;have a8:=FA H.mA;have K:∀g,(Value.slice d f i).ownBlock=some g->cD q y g:=fun g hg=> .inr (.inr ⟨_,List.getElem_mem C,by rw[j];exact hg⟩)
  have Y:=Zh K;have Z:=H.nodes _ (List.getElem_mem C);rw[show y.rs[k]=(⟨⟨p,s,t⟩,⟨d,f,i⟩,m⟩:Rn) by cases e:y.rs[k];rw[e] at u j J;cases u;cases j;cases J;rfl] at Z;have HR:=Zh Z;clear hv u j D J L K Z;have M:MA y.d.l r.id=m.tag:=(by rw[<-X.out];exact(IG I C V).1);have N:=Zh M;have HH:=Zh hh;clear ha hi hy M hh;have O:=Zh (LA.new W m p s t d f i);have T:Hid (eA w (W.alloc (.cells (XA m p s t d f i) 53))):=Zh (x.alloc x.size _);have BW:Hid (eA W (W.alloc (.cells (XA m p s t d f i) 53))):=Zh (Zb _ _);have N3:Hid (bB (W.alloc (.cells (XA m p s t d f i) 53)) w.heap.size r A n c):=Zh (oB a);go_wp2_with fail;refine zA (rB r.id W I hl C V H) ?_;go_upto_region 14 with fail;generalize W.alloc (.cells (XA m p s t d f i) 53)=P at O T BW N3|-;clear l0 l1 l2 l3 l4 l5 l6 l7 d0 R b1 S b7;have R:=N3.c0;have S:=N3.c5;have a2:=O.c2;have a3:=O.c3;have f3:=O.frozen 3;obtain⟨bt,Q⟩:=qA (P1.YB r.txt.data.toList);have E:=Zh Q;clear Q;go_wp2_with fail;refine zA (P3.pJ r.txt P E ht) ?_;cases tE:m.tag.toList.isEmpty with
  |false=>
   have z:Hid (GD y.d r.id r.txt=(3,y.d)):=Zh (by unfold GD;rw[if_neg HH.out,if_pos];rw[N.out];intro e;rw[e] at tE;cases tE);go_wp2_with fail;go_ret;rw[z.out];exact gC.same G T rfl
  |true=>
   have HE:Hid (¬(MA y.d.l r.id).toList≠[]):=Zh (by rw[N.out];simpa using tE);cases bt with
   |false=>
    have z:Hid (GD y.d r.id r.txt=(1,y.d)):=Zh (by unfold GD;rw[if_neg HH.out,if_neg HE.out,if_pos E.out]);go_wp2_with fail;go_ret;rw[z.out];exact gC.same G T rfl
   |true=>
    have z:Hid (GD y.d r.id r.txt=(0,{y.d with l:=iB y.l r.id (tH r.txt)})):=Zh (by unfold GD;rw[if_neg HH.out,if_neg HE.out,if_neg (by rw[E.out];simp)];rfl);have v:Hid (LA (P.setCell ⟨W.heap.size,3,none⟩ (bA r.txt)) W.heap.size (tH r.txt m) p s t d f i):=Zh (heap_set O 3 (bA r.txt));have B4:Hid (eA w (P.setCell ⟨W.heap.size,3,none⟩ (bA r.txt))):=Zh (Below.setCell T (by exact x.size) _);have F:Hid (eA W (P.setCell ⟨W.heap.size,3,none⟩ (bA r.txt))):=Zh (Below.setCell BW (by exact Zl) _);go_upto_region 27 with fail;generalize P.setCell ⟨W.heap.size,3,none⟩ (bA r.txt)=W4 at v B4 F|-;clear a2 a3 f3 R S;have a0:=v.c0;have a1:=v.c1;have a2:=v.c2;have a3:=v.c3;have a4:=v.c4;have a5:=v.c5;have a6:=v.c6;have a7:=v.c7;go_wp2_with fail;refine(iK k (tH r.txt m) p s t d f i W4 I hl C (by rw[X.out];rfl) ⟨(HR.below F).mB,(HR.below F).kids⟩ (G.below B4)).mono ?_;rintro e w5 ⟨rfl,v5,r5⟩;have R5:=Zh (r5.made B4 Y I C V (tH r.txt) (by rw[X.out]));clear r5;go_wp2_with fail;go_ret;rw[z.out];exact⟨rfl,R5⟩
theorem pd(r:Rc)(A:jA)(n c:Nat)(w:World)(ha:EB y.l)(hl:y.rs.length<=1000)(ht:rK w A n c r.attrs)(q1:(r.op==1)=false)(q2:(r.op==2)=false)(q3:(r.op==3)=false)(q4:(r.op != 4)=false)(q6:(r.op==4)=true)(h:Rf w B q y):fA 56 #[iA q,.agg (JA r A n c)] w (gC w B q y (fD y.d r.id r.attrs).1 (fD y.d r.id r.attrs).2):=by
 have J:Hid (eA w (w.alloc (.cells (JA r A n c) 87))):=Zh (Zb _ _);have d:=Zh (bB.new w r A n c);have V:=Zh h;have Y:=Zh ha;have K:=Zh ht;clear h ht;cases hi:lA y.l r.id with
 |false=>
  have P:Hid (fD y.d r.id r.attrs=(2,y.d)):=Zh (by unfold fD;rw[if_pos (show lA y.d.l r.id=false from hi)]);have HI:=Zh hi;clear ha hi;go_enter func56,ntmps56;go_upto_region 1 with fail;generalize w.alloc (.cells (JA r A n c) 87)=W at J d|-;have H:=Zh (V.below J);have b0:=d.c0;have b1:=d.c1;have b5:=d.c5;have X:=d.c7;go_wp2_with fail;refine zA (yH r.id W hl HI H) ?_;go_wp2_with fail;go_ret;rw[P.out];exact gC.same V J rfl
 |true=>
  go_enter func56,ntmps56;go_upto_region 1 with fail;generalize w.alloc (.cells (JA r A n c) 87)=W at J d|-;have H:=Zh (V.below J);have b0:=d.c0;have b1:=d.c1;have b5:=d.c5;have X:=d.c7;have hh:¬lA y.d.l r.id=false:=(by rw[show y.d.l=y.l from rfl,hi];simp);obtain⟨k,F,hy,_⟩:=FC Y hi;obtain⟨b,o,cl,M,N,O,f,i,j,hv,af,hb,d0,L,G,t⟩:=H.bG F;have ao:=Zh G;have ap:=Zh t;have HY:=Zh hy;obtain⟨nl,Q⟩:=qA y.rs.length;have aq:=Zh Q;have ar:k<nl:=cA;have au:nl<=1000:=cA;rw[Q] at d0 af;obtain⟨m,Z⟩:=qA (y.rs[k].nd);have HM:=Zh Z;rw[Z] at L;have l0:=L.c0;have l1:=L.c1;have l2:=L.c2;have l3:=L.c3;have l4:=L.c4;have l5:=L.c5;have l6:=L.c6;have l7:=L.c7;have am:=FA H.mA;have a8:∀g,(Value.slice f i j).ownBlock=some g->cD q y g:=fun g hg=> .inr (.inr ⟨_,List.getElem_mem F,by rw[t];exact hg⟩)
  have ag:=Zh a8;have hR:=H.nodes _ (List.getElem_mem F);rw[show y.rs[k]=(⟨⟨M,N,O⟩,⟨f,i,j⟩,m⟩:Rn) by cases e:y.rs[k];rw[e] at G t Z;cases G;cases t;cases Z;rfl] at hR;have HR:=Zh hR;clear hv G t Q Z L a8 hR;have a9:MA y.d.l r.id=m.tag:=(by rw[<-HM.out];exact(IG Y F HY).1);have aa:=Zh a9;have HH:=Zh hh;clear ha hi hy a9 hh;have N2:=Zh (LA.new W m M N O f i j);have B2:Hid (eA w (W.alloc (.cells (XA m M N O f i j) 53))):=Zh (J.alloc J.size _);have BW:Hid (eA W (W.alloc (.cells (XA m M N O f i j) 53))):=Zh (Zb _ _);have N3:Hid (bB (W.alloc (.cells (XA m M N O f i j) 53)) w.heap.size r A n c):=Zh (oB d);go_wp2_with fail;refine zA (rB r.id W Y hl F HY H) ?_;go_upto_region 14 with fail;generalize W.alloc (.cells (XA m M N O f i j) 53)=W2 at N2 B2 BW N3|-;clear l0 l1 l2 l3 l4 l5 l6 l7 d0 b0 b1 b5 X;have b0:=N3.c0;have X:=N3.c7;obtain⟨bt,ab⟩:=qA (P3.bC r.attrs);have R:=Zh ab;clear ab;go_wp2_with fail;refine(P3.nZ r.attrs A n c W2 K.len K.SB K.wf (UE (K.below B2).holds)).mono ?_;rintro e a ⟨rfl,u⟩;rw[R.out];have B3:=Zh (B2.trans (u.mono B2.size));have N5:=Zh (N2.below u N2.lt);have R5:=Zh (N3.below u N3.lt);have ac:=Zh (BW.trans (u.mono BW.size));have ah:W.heap.size<a.heap.size:=N5.lt;clear u b0 X;have a2:=N5.c2;cases tE:m.tag.toList.isEmpty with
  |true=>
   have P:Hid (fD y.d r.id r.attrs=(3,y.d)):=Zh (by unfold fD;rw[if_neg HH.out,if_pos];rw[aa.out];simpa using tE);go_wp2_with fail;go_ret;rw[P.out];exact gC.same V B3 rfl
  |false=>
   have HE:Hid (¬(MA y.d.l r.id).toList=[]):=Zh (by rw[aa.out];intro e;rw[e] at tE;cases tE);cases bt with
   |false=>
    have P:Hid (fD y.d r.id r.attrs=(1,y.d)):=Zh (by unfold fD;rw[if_neg HH.out,if_neg HE.out,if_pos R.out]);go_wp2_with fail;go_ret;rw[P.out];exact gC.same V B3 rfl
   |true=>
    have P:Hid (fD y.d r.id r.attrs=(0,{y.d with l:=iB y.l r.id (gH r.attrs)})):=Zh (by unfold fD;rw[if_neg HH.out,if_neg HE.out,if_neg (by rw[R.out];simp)];rfl);have OM:=Zh (Kind.Own.made kA a a.heap.size Zl);have X:(a.alloc (.cells #[] 119)).cell? ⟨w.heap.size,7,none⟩=some (.slice A n c):=bB.c7 (oB R5);have ai:=Zh ((K.below B3).holds.below ((Below.refl a.heap.size a).alloc Zl (.cells #[] 119)) Zl);have an:=K.SB;go_upto_region 27 with(at_builtin;refine kA.iC rfl _ _ rfl (v:=.slice (some ⟨a.heap.size,0,none⟩) 0 0) (l:=[]) (m:=r.attrs) (B:=a.heap.size) rfl OM rfl K.len K.nil ai AA DA ?_;intro v' T x z aj;obtain⟨C,D,E,rfl,_,_,_,_,_⟩:=x.slice;have U:Hid (eA a T):=Zh (Below.grown (Zb _ _) z DA (fun k F=>by simp[Value.ownBlock] at F;omega));have ak:=Zh x;clear x z aj;have N6:=Zh (N5.below U ah);have f5:=N6.frozen 5;have a5:=N6.c5);have al:Hid (nB T ⟨C,D,E⟩ r.attrs):=Zh (by
     obtain⟨s,hs,h2⟩:=nB.own ak;obtain⟨sA,sn,sc⟩:=s;cases hs;exact h2)
    have I:Hid (LA (T.setCell ⟨W.heap.size,5,none⟩ (.slice C D E)) W.heap.size (gH r.attrs m) C D E f i j):=Zh (heap_set N6 5 (.slice C D E));have B4:Hid (eA w (T.setCell ⟨W.heap.size,5,none⟩ (.slice C D E))):=Zh (Below.setCell (B3.trans (U.mono B3.size)) (by exact J.size) _);have ad:Hid (eA W (T.setCell ⟨W.heap.size,5,none⟩ (.slice C D E))):=Zh (Below.setCell (ac.trans (U.mono ac.size)) (by exact Zl) _);have ae:Hid (nB (T.setCell ⟨W.heap.size,5,none⟩ (.slice C D E)) ⟨C,D,E⟩ r.attrs):=Zh (al.but (gA.setCell (S:=fun k=>k=W.heap.size) (p:=⟨W.heap.size,5,none⟩) (gA.refl _ _) (fun _=>rfl) _) N6.eD);generalize T.setCell ⟨W.heap.size,5,none⟩ (.slice C D E)=W4 at I B4 ad ae|-;clear a2 a5 f5 X;have a0:=I.c0;have a1:=I.c1;have a2:=I.c2;have a3:=I.c3;have a4:=I.c4;have a5:=I.c5;have a6:=I.c6;have a7:=I.c7;go_wp2_with fail;refine(iK k (gH r.attrs m) C D E f i j W4 Y hl F (by rw[HM.out];rfl) ⟨ae,(HR.below ad).kids⟩ (V.below B4)).mono ?_;rintro e w5 ⟨rfl,v5,r5⟩;have R6:=Zh (r5.made B4 ag Y F HY (gH r.attrs) (by rw[HM.out]));clear r5;go_wp2_with fail;go_ret;rw[P.out];exact⟨rfl,R6⟩
end P5
end Go.Proofs.YtngnkmeaaneklaaGreat
