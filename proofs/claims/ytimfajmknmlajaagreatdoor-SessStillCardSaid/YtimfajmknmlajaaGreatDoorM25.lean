/- A part of the proof. No condition. -/
import Derived.Test.YtimfajmknmlajaaGreatDoorM1
import Derived.Test.YtimfajmknmlajaaGreatDoorM6
import Derived.Test.YtimfajmknmlajaaGreatDoorM8
import Derived.Test.YtimfajmknmlajaaGreatDoorM16
import Derived.Test.YtimfajmknmlajaaGreatDoorM18
import Derived.Test.YtimfajmknmlajaaGreatDoorM22
import Derived.Test.YtimfajmknmlajaaGreatDoorM23
import Derived.Test.YtimfajmknmlajaaGreatDoorM24
set_option linter.unusedVariables false
set_option linter.unusedSimpArgs false
set_option maxRecDepth 100000
set_option maxHeartbeats 40000000
namespace Go.Proofs.YtimfajmknmlajaaGreatDoor
open Go.Proofs.Tryz
namespace P21
open Go.RowKit Kd P4 P5 P6 P7 P8 P10 P16 P19 P20
theorem Lt{s:Sg}{m:List PT}(hw:WF s.1)(hk:qC (RA s.1.l 1)=false)(hm:gD m=true)(hR:s.1.l.length+cB m<=s.1.R)(j:Nat)(hj:j<m.length):(qB (YE (m.take j) s).1 1 0 m[j]).err=0:=by
 have a:=hm;rw[DK,List.all_eq_true] at a;have c:gD (m.take j)=true:=by
  rw[DK,List.all_eq_true];exact fun k hk=>a k (List.take_subset j m hk)
 have f:=PM hj;have g:=VM m (j+1);obtain⟨d,b,_⟩:=E7 (m.take j) hw hk c dA;have e:=(hw.pos hw.root).2;exact(built m[j] (YE (m.take j) s).1 1 b.wf b.wf.root (by rw[b.tag e];exact hk) (a _ (List.getElem_mem hj)) (by have:=b.len;have:=b.R;omega)).1
theorem Th{s:Sg}(hw:WF s.1)(hk:qC (RA s.1.l 1)=false){c:Nat}(hr:¬(s.1.R:Int)-s.1.l.length+((below s.1.l 1).length-1)<c):
 qC (RA (cC (xA s.1.l 1) s).1.l 1)=false/\(cC (xA s.1.l 1) s).1.l.length+c<=(cC (xA s.1.l 1) s).1.R:=by
 have g:=wY hw;have e:=H7 hw;have f:=(yK (vP s.1) (xA s.1.l 1) (s:=s) ⟨hw,Tg.refl _⟩).2;refine⟨?_,by rw[f.room];omega⟩;obtain⟨i,a⟩:=uK hw.root;have d:find (cC (xA s.1.l 1) s).1.l 1=some {i with kids:=[]}:=(by rw[g.Qd,a];rfl);have b:RA (cC (xA s.1.l 1) s).1.l 1=RA s.1.l 1:=(by unfold RA;rw[d,a]);rw[b];exact hk
def qL(w:World)(g p:Nat)(x:Dx)(vd:Value)(ts:List TV)(A:vA)(n c:Nat)(S:Sg)(wr:World):Prop:=
 (∃x' vd' rs',wB w 0 g p x vd x' vd' rs' wr/\(x'.d,rs'.map (·.r))=S)/\kT.Own wr 0 (.slice A n c) ts/\∀t∈ts,DJ wr t
section
variable{w w' wr:World}{s g p:Nat}{x x':Dx}{vd vd':Value}{rs rs':List RR}{ts:List TV}{A:vA}{n c:Nat}{S:Sg}
theorem qL.below(h:qL w g p x vd ts A n c S wr)(hb:fA wr w'):qL w g p x vd ts A n c S w':=by
 obtain⟨⟨a,b,d,k,e⟩,f,i⟩:=h;exact⟨⟨a,b,d,wB.below k hb,e⟩,f.below hb Zl,fun t h=>(i t h).later hb⟩
def WW(w:World)(s g p:Nat)(x:Dx)(vd:Value)(ts:List TV)(A:vA)(n c:Nat)(S:Sg)(b:Nat)(t:TV)(e:Ending)(w':World):Prop:=
 ∃i:Int,e= .returned (.tuple #[aA i,.nilIface])/\qL w g p x vd ts A n c (uW S (er t)) w'/\TB w' b t/\w'.cell? (cA s 0)=some (lA p)/\w'.cell? (cA s 1)=some (lA g)
theorem Ap(H:iD w s g p x vd [])(k:qL w g p x vd ts A n c S wr){t:TV}(ht:t∈ts)(hw:WF S.1)(hn:S.1.n<=88000)(hl:S.2.length+3*countP (er t)<=900)(hm:iC (er t)=true)(he:(qB S.1 1 0 (er t)).err=0){b:Nat}(hb:TB wr b t):
 jA 83 #[lA g,lA p,aA 1,aA 0,.agg #[bA t.tag,bA t.txt,bA t.key,.slice t.sa.A t.sa.n t.sa.c,.slice t.sk.A t.sk.n t.sk.c]] wr (WW w s g p x vd ts A n c S b t):=by
 obtain⟨⟨l,m,o,a,q⟩,r,f⟩:=k;subst q;refine(Mf t wr 0 g p l m o 1 0 hw hn (by simpa using hl) a.dc a.lg (f t ht) (C8 _ hm)).mono ?_;rintro e w' (⟨i,_⟩|⟨_,u,v,y,rfl,d,z,B⟩)
 ·rw[hm] at i;cases i
 have j:=(H.sO a).sO d;refine⟨_,by rw[he,qM],⟨⟨u,v,y,wB.trans a d,?_⟩,OQ a.dc a.lg d r,fun t h=>EU a.dc a.lg d (f t h)⟩,xb a.dc a.lg d hb,j.c0,j.c1⟩;unfold uW;rw[z,B]
theorem gx:QA ((6:Nat):Int)= .iface 29 (aA 6):=rfl
theorem Nk(t:qA)(h:iD w s g p x vd [])(hg:SC x.d)(hroot:qC (RA x.l 1)=false)(hn:x.n<=80000)(hml:Bd.ML w)(ht:t.size<=100000):
 jA 47 #[lA s,bA t] w (wM w g p x vd (fF (x.d,[]) t.data.toList)):=by
 have q2:=qF;have q3:=AF;have H:=Zh h;have G:=Zh hg.1;have ak:=Zh hroot;have CG:=Zh (Vs t w dA hml);obtain⟨pr,a⟩:=DA (fF (x.d,[]) t.data.toList);rw[a];unfold fF at a;have B:Hid ((JD t.data.toList).2=0->gD (JD t.data.toList).1=true):=Zh zo;have J:=Zh (Ao t.data.toList);obtain⟨gc,W⟩:=DA ((JD t.data.toList).2);obtain⟨gl,K⟩:=DA ((JD t.data.toList).1);rw[W,K] at a B;rw[K] at J;have X:=Zh a;have a4:=Zh hn;clear h hg hroot a hn hml ht;go_enter func47,ntmps47;go_wp2_with fail;refine CG.mono ?_;rintro e w1 ⟨A1,q,Y,f,rfl,r,T,U,b1⟩;rw[K] at r;have C:=Zh r;have O1:=Zh (T.dE (Nat.zero_le _));have B1:=Zh b1;have T1:Hid (∀t∈f,DJ w1 t):=Zh (fun t ht=>(U t ht).mono fun _ _ _=>trivial);rw[W];clear r T U b1 CG K W;by_cases Z:gc=0
 ·subst Z;have a:=X.out;rw[if_neg pA] at a;have HM:=Zh (B rfl);have a0:Hid (f.length=q):=Zh (NN O1).1;have aw:q<=12000:=(by have:=YN gl;have:=J.out;have:=a0.out;have h3:=congrArg List.length C;rw[nC,List.length_map] at h3;omega);have a5:Hid (gl.length=q):=Zh (by rw[<-C.out,nC,List.length_map];exact a0);obtain⟨cl,u⟩:=DA (cB gl);have al:cl<=12000:=(by have:=FU gl;have:=J.out;omega);have CC:Hid (jA 80 #[.slice A1 q Y] w1 fun e w'=>e= .returned (aA (cl:Nat))/\fA w1 w'):=Zh (by
   have:=Hh f A1 q Y w1 O1 T1 (by rw[C.out];exact J);rw[C.out,u] at this;exact this)
  obtain⟨nb,D⟩:=DA ((below x.l 1).length);obtain⟨m,hm⟩:=DA x.rs.length;have CR:Hid (∀L,fA w L->jA 81 #[lA s] L fun e w'=>e= .returned (aA ((x.R:Int)-m+((nb:Int)-1)))/\fA L w'):=Zh (fun L h9=>Bo (H.below h9) G hm D);have am:x.R<=200:=G.room;have av:nb<=m:=by
   have h1:=P5.eI (below x.l 1) (MA x.l) (G.tr.vL _ 1 G.root) (fun z V=>zE.1 (G.tr.ZJ _ 1 z G.root V));rw[D] at h1;simp only[MA,List.length_map,dG] at h1;omega
  rw[show(x.d,([]:List Rc)).1.l=x.l from rfl,u,D,show x.l.length=m by rw[dG,hm],show(x.d,([]:List Rc)).1.R=x.R from rfl] at a;have E:=Zh a;have GR:=Zh (Th (s:=(x.d,[])) (c:=cB gl) G ak);rw[show(x.d,([]:List Rc)).1.l=x.l from rfl,u,D,show x.l.length=m by rw[dG,hm],show(x.d,([]:List Rc)).1.R=x.R from rfl] at GR;have a6:=Zh u;rw[show QA ((0:Nat):Int)= .nilIface from rfl];clear a u D hm X B;go_wp2_with fail;refine CC.mono ?_;rintro e w2 ⟨rfl,b2⟩;have B2:=Zh (B1.trans (b2.mono B1.size));have O2:=Zh (O1.below b2 Zl);have T2:Hid (∀t∈f,DJ w2 t):=Zh (fun t ht=>(T1 t ht).later b2);clear b2 CC O1 T1;go_wp2_with fail;refine(CR w2 B2).mono ?_;rintro e w3 ⟨rfl,b3⟩;have B3:=Zh (B2.trans (b3.mono B2.size));have O3:=Zh (O2.below b3 Zl);have T3:Hid (∀t∈f,DJ w3 t):=Zh (fun t ht=>(T2 t ht).later b3);clear b3 CR O2 T2;by_cases i:(x.R:Int)-(m:Int)+((nb:Int)-1)<(cl:Int)
  ·have q4:decide ((x.R:Int)-(m:Int)+((nb:Int)-1)<(cl:Int))=true:=decide_eq_true i;have v:Hid (∀L,fA w L->wM w g p x vd pr (.returned (.iface 29 (aA 6))) L):=Zh (fun L h9=>by
    have:=E.out;rw[if_pos i] at this;subst this;exact⟨x,vd,[],by rw[gx],wB.same H.dc H.lg h9,rfl⟩)
   go_wp2_with fail;go_ret;exact v _ B3
  ·have q4:decide ((x.R:Int)-(m:Int)+((nb:Int)-1)<(cl:Int))=false:=decide_eq_false i;have a:=E.out;rw[if_neg i] at a;obtain⟨r1,r2⟩:=GR (by first|exact i|omega);have CK:=Zh (Pj (H.below B3) G (IA a4.out));have aj:cl<=200:=dA;have HG:=Zh (UM (xA x.l 1) (x.d,([]:List Rc)));have M:Hid (WF (cC (xA x.l 1) (x.d,([]:List Rc))).1):=Zh (P19.tN (xA x.l 1) (s:=(x.d,([]:List Rc))) G);have a7:Hid ((xA x.l 1).length<=200):=Zh (LJ G 1);generalize xA x.l 1=kk at a r1 r2 CK HG M a7;generalize cC kk (x.d,[])=F at a r1 r2 CK HG M;have an:=Zh a;have ao:=Zh r1;have ap:Hid (F.1.l.length+cB gl<=F.1.R):=Zh (by rw[a6.out];exact r2);clear a r1 r2 GR E;go_wp2_with fail;refine CK.mono ?_;rintro e w4 ⟨x4,aq,ar,rfl,N,e4⟩;have a8:Hid (qL w g p x vd f A1 q Y F w4):=Zh ⟨⟨x4,aq,ar,wB.trans (wB.same H.dc H.lg B3) N,e4⟩,OQ (H.dc.below B3) (H.lg.below B3) N O3,fun t ht=>EU (H.dc.below B3) (H.lg.below B3) N (T3 t ht)⟩;rw[show QA (((0:Nat),F).1:Int)= .nilIface from rfl];clear N e4 O3 T3 CK q4;go_wp2_with fail;go_loopw [33] (fun a1 wr=>∃j:Nat,j<=q/\a1 = aA j/\Hid (qL w g p x vd f A1 q Y (YE (gl.take j) F) wr)) (fun a1 _=>q-(intOf a1).toNat)
   case atStart=>exact⟨0,Nat.zero_le _,rfl,a8⟩
   case round=>
    clear a8;obtain⟨j,hj,rfl,HL⟩:=hrel;by_cases ax:j<q
    ·have a9:j<f.length:=(IA a0.out);have O:j<gl.length:=(IA a5.out);have P:gl[j]=er f[j]:=(by simp[<-C.out,nC]);have aa:=PM O;have u:=VM gl (j+1);have a2:=xY (gl.take j) gl[j] F;rw[<-List.take_succ_eq_append_getElem O,P] at a2;have ab:iC (er f[j])=true:=by
      have h1:=HM.out;rw[DK,List.all_eq_true] at h1;rw[<-P];exact h1 _ (List.getElem_mem O)
     have r:=Lt M ao HM ap j O;rw[P] at r aa;obtain⟨pw,pn,pl⟩:=NT (gl.take j) (s:=F) M;have h3:=a6.out;have h4:=HG.1;have h5:=HG.2;have h6:=a4.out;have h8:=a7.out;have h4:F.1.n=x.n:=h4;simp only[List.length_nil] at h5;have CB:Hid (∀y b,fA wr y->TB y b f[j]->jA 83 #[lA g,lA p,aA 1,aA 0,.agg #[bA f[j].tag,bA f[j].txt,bA f[j].key,.slice f[j].sa.A f[j].sa.n f[j].sa.c,.slice f[j].sk.A f[j].sk.n f[j].sk.c]] y (WW w s g p x vd f A1 q Y (YE (gl.take j) F) b f[j])):=Zh (fun y b V hb=>Ap H (HL.below V) (List.getElem_mem a9) pw dA dA ab r hb);obtain⟨x2,ay,ac,k2,_⟩:=HL.1;have SW:=Zh (H.sO k2);obtain⟨b,o,rfl,hb,g0,g1,g2,g3,g4⟩:=qK (NN HL.2.1).2.2.2.2 a9;have ad:=Zh a2;clear pw pn pl h3 h4 h5 h6 h8 aa u a2 ab r k2 P;generalize f[j]=d at g0 g1 g2 g3 g4 CB ad;go_upto_region 12 with fail;have I:Hid (TB (wr.alloc (.cells #[bA d.tag,bA d.txt,bA d.key,.slice d.sa.A d.sa.n d.sa.c,.slice d.sk.A d.sk.n d.sk.c] 81)) wr.heap.size d):=Zh (TB.new wr d);have BA:Hid (fA wr (wr.alloc (.cells #[bA d.tag,bA d.txt,bA d.key,.slice d.sa.A d.sa.n d.sa.c,.slice d.sk.A d.sk.n d.sk.c] 81))):=Zh (Zb _ _);generalize wr.heap.size=n at I|-;generalize wr.alloc (.cells #[bA d.tag,bA d.txt,bA d.key,.slice d.sa.A d.sa.n d.sa.c,.slice d.sk.A d.sk.n d.sk.c] 81)=Q at I BA|-;clear g0 g1 g2 g3 g4;have a3:=Zh (SW.below BA);have SK:Q.cell? (cA s 0)=some (lA p)/\Q.cell? (cA s 1)=some (lA g)/\Q.cell? (cA n 0)=some (bA d.tag)/\Q.cell? (cA n 1)=some (bA d.txt)/\Q.cell? (cA n 2)=some (bA d.key)/\Q.cell? (cA n 3)=some (.slice d.sa.A d.sa.n d.sa.c)/\Q.cell? (cA n 4)=some (.slice d.sk.A d.sk.n d.sk.c):=⟨a3.c0,a3.c1,I.c0,I.c1,I.c2,I.c3,I.c4⟩;have ae:Hid (∀y,fA Q y->jA 83 #[lA g,lA p,aA 1,aA 0,.agg #[bA d.tag,bA d.txt,bA d.key,.slice d.sa.A d.sa.n d.sa.c,.slice d.sk.A d.sk.n d.sk.c]] y (WW w s g p x vd f (some (cA b o)) q Y (YE (gl.take j) F) n d)):=Zh (fun y V=>CB y n (BA.trans (V.mono BA.size)) (I.below V I.lt));clear SW a3 I CB;go_region_held3 (fun w'=>w'.cell? (cA s 0)=some (lA p)/\w'.cell? (cA s 1)=some (lA g)/\w'.cell? (cA n 0)=some (bA d.tag)/\w'.cell? (cA n 1)=some (bA d.txt)/\w'.cell? (cA n 2)=some (bA d.key)/\w'.cell? (cA n 3)=some (.slice d.sa.A d.sa.n d.sa.c)/\w'.cell? (cA n 4)=some (.slice d.sk.A d.sk.n d.sk.c)) (first|go_keep|exact SK) ((first
      |(go_at_call 83;refine(ae _ VG).mono ?_;rintro e S ⟨i5,rfl,af,A,ag,ah⟩;have PV:=Zh af;have SK:S.cell? (cA s 0)=some (lA p)/\S.cell? (cA s 1)=some (lA g)/\S.cell? (cA n 0)=some (bA d.tag)/\S.cell? (cA n 1)=some (bA d.txt)/\S.cell? (cA n 2)=some (bA d.key)/\S.cell? (cA n 3)=some (.slice d.sa.A d.sa.n d.sa.c)/\S.cell? (cA n 4)=some (.slice d.sk.A d.sk.n d.sk.c):=⟨ag,ah,A.c0,A.c1,A.c2,A.c3,A.c4⟩;clear af A ag ah)
      |fail))
     clear SK;have au:Hid (∀y,fA S y->qL w g p x vd f (some (cA b o)) q Y (YE (gl.take (j+1)) F) y):=Zh (fun y V=>by rw[ad.out];exact PV.below V);clear PV ae;go_wp2_with fail;go_roundw
     case rel=>exact⟨j+1,by omega,by go_num,Zh (au _ VG)⟩
     case measure=>simp[intOf];omega
    ·obtain rfl:q=j:=dA
     have ai:gl.take q=gl:=List.take_of_length_le (by rw[a5.out];exact Zl);have v:Hid (wM w g p x vd pr (.returned .nilIface) wr):=Zh (by
      obtain⟨⟨x2,v2,ac,k2,e2⟩,_,_⟩:=HL;rw[ai] at e2;rw[<-an.out];exact⟨x2,v2,ac,rfl,k2,e2⟩)
     clear ai;go_wp2_with fail;go_ret;exact v
 ·have a:=X.out;rw[if_pos Z] at a;have v:Hid (wM w g p x vd pr (.returned (QA (gc:Nat))) w1):=Zh (by subst a;exact⟨x,vd,[],rfl,wB.same H.dc H.lg B1,rfl⟩);have e0:=oP Z;rw[e0] at v|-;clear a e0;go_wp2_with fail;go_ret;exact v
end
end P21
namespace P21
open Go.RowKit Kd P4 P5 P6 P7 P8 P9 P10 P12 P14 P16 P19 P20
def RB(w:World)(b:Nat)(c:Int)(t:qA)(i k:Int):Prop:=w.heap[b]? = some (.cells #[aA c,bA t,aA i,aA k] 38 (0,0))
section
variable{w w' wz w5 wf:World}{b s g p gs gz:Nat}{c i k:Int}{t:qA}{x x':Dx}{vd vd':Value}{rs rs':List RR}{a:SV}{S:Sg}
theorem RB.new(w:World)(c:Int)(t:qA)(i k:Int):RB (w.alloc (.cells #[aA c,bA t,aA i,aA k] 38)) w.heap.size c t i k:=heap_alloc_new w _
theorem RB.below{C:Nat}(h:RB w b c t i k)(hb:Below C w w')(hC:b<C):RB w' b c t i k:=(hb.block b hC).trans h
theorem oH(h:RB w b c t i k):w.cell? (cA b 0)=some (aA c)/\w.cell? (cA b 1)=some (bA t)/\w.cell? (cA b 2)=some (aA i)/\w.cell? (cA b 3)=some (aA k)/\(∀j,w.frozen? (cA b j)=false)/\b<w.heap.size:=
 ⟨cell_of_row w b 0 _ _ (0,0) h,cell_of_row w b 1 _ _ (0,0) h,cell_of_row w b 2 _ _ (0,0) h,cell_of_row w b 3 _ _ (0,0) h,fun j=>by have:=h;unfold RB at this;simp[World.frozen?,this],JA h⟩
def CV(w:World)(g p:Nat)(x:Dx)(vd:Value)(c:Int)(S:Sg)(e:Ending)(w':World):Prop:=
 ∃(x':Dx) (vd':Value) (rs':List RR),e= .returned (QA c)/\wB w 0 g p x vd x' vd' rs' w'/\(x'.d,rs'.map (·.r))=S
structure ZW(w:World)(s g p:Nat)(x:Dx)(vd:Value)(a:SV)(gs gz:Nat)(wz:World):Prop where
 bI:iD w s g p x vd []
 bw:fA w wz
 rb:RB wz gz 0 ⟨#[]⟩ 0 0
 sb:SB wz gs a
 aX:w.heap.size<=gz
 we:w.heap.size<=gs
 ne:gs≠gz
structure DW(w:World)(s g p:Nat)(x:Dx)(vd:Value)(a:SV)(gs gz:Nat)(S:Sg)(w5:World):Prop where
 ld:∃x' vd' rs',wB w 0 g p x vd x' vd' rs' w5/\(x'.d,rs'.map (·.r))=S
 rb:RB w5 gz 0 ⟨#[]⟩ 0 0
 sb:SB w5 gs a
 c0:w5.cell? (cA s 0)=some (lA p)
 c1:w5.cell? (cA s 1)=some (lA g)
theorem ZW.drew(h:ZW w s g p x vd a gs gz wz):ZW w s g p x vd a gs gz wz.drew:=⟨h.bI,h.bw.drew,h.rb,h.sb,h.aX,h.we,h.ne⟩
theorem ZW.se(h:ZW w s g p x vd a gs gz wz):iD wz s g p x vd []:=h.bI.below h.bw
theorem XP{e:Ending}(Z:ZW w s g p x vd a gs gz wz)(h:CV wz g p x vd c S e w5):e= .returned (QA c)/\DW w s g p x vd a gs gz S w5:=by
 obtain⟨l,b,d,rfl,f,m⟩:=h;have n:=Z.se;have i:∀k,w.heap.size<=k->k<wz.heap.size->w5.heap[k]? = wz.heap[k]?:=fun k q o=>f.but.block k o (fun e=>by
  have:k<w.heap.size:=e.elim Z.bI.dc.lt Z.bI.lg.lt;omega)
 have j:=n.sO f;exact⟨rfl,⟨l,b,d,wB.trans (wB.same Z.bI.dc Z.bI.lg Z.bw) f,m⟩,(i gz Z.aX (JA Z.rb)).trans Z.rb,(i gs Z.we (JA Z.sb)).trans Z.sb,j.c0,j.c1⟩
theorem pR(k:wB w 0 g p x vd x' vd' rs' w5)(hb:iA (fun k=>k=gz) w5 wf)(h1:w.heap.size<=gz)(hr:RB w5 gz 0 ⟨#[]⟩ 0 0):wB w 0 g p x vd x' vd' rs' wf:=by
 have b:vC w5 (fun k=>k=gz):=fun i c f a d=>by subst a;exact WA d hr pA rfl
 have j:¬fC p x' gz:=k.dc.other hr pA pA pA pA pA;have l:¬eG g vd' gz:=fun e=>by
  obtain⟨c,o,m,n⟩:=k.lg.ty e;rcases n with rfl|rfl<;>exact WA m hr pA rfl
 exact⟨k.dc.but hb (fun i a e=>j (e▸a)) b,k.lg.but hb (fun i a e=>l (e▸a)) b,k.but.trans hb (fun i a e=>by omega),k.ft,k.lf⟩
theorem du(h:Dc w 0 p x)(l:Lg w 0 g p vd rs)(k:aC w 0 p x x' w'):wB w 0 g p x vd x' vd rs w':=⟨k.dc,l.YI h k,k.but.mono (fun _ _ a=> .inl a),k.ft,fun _ a=> .inl a⟩
theorem Wb{cc:Int}{d:D}{e:Ending}(h:iD w s g p x vd [])(k:Made w 0 p x (QA cc) d e w'):CV w g p x vd cc (d,[]) e w':=by
 obtain⟨rfl,a,k,rfl⟩:=k;exact⟨a,vd,[],rfl,du h.dc h.lg k,rfl⟩
def jO(w:World)(t:qA)(i:Int)(c:Int)(e:Ending)(w':World):Prop:=e= .returned (.tuple #[.agg #[aA 0,bA t,aA i,aA 0],QA c])/\fA w w'
theorem Hd:QA 1= .iface 29 (aA 1):=rfl
theorem Xk(id:Int)(h:iD w s g p x vd rs)(hg:SC x.d)(hn:x.n<=100000):
 jA 50 #[lA s,aA id] w (jO w (if nA x.l id=true then uM (mD x.l (x.l.length+1) id) else⟨#[]⟩) 0 (if nA x.l id=true then 0 else 2)):=by
 have H:=Zh h;have I:=Zh (fun i (J:fA w i)=>Tx i 0 p x id hg.1 hn (h.dc.below J));have r:Hid (nA x.l id=true->iC (mD x.l (x.l.length+1) id)=true/\countP (mD x.l (x.l.length+1) id)<=200):=Zh (fun m=>⟨Ve hg m,(Dj hg.1 m).1⟩);have b:Hid (fA w (w.alloc (.cells #[aA 0,oA,aA 0,aA 0] 38))):=Zh ((Below.refl _ w).alloc Zl _);have j:Hid (RB (w.alloc (.cells #[aA 0,oA,aA 0,aA 0] 38)) w.heap.size 0 ⟨#[]⟩ 0 0):=Zh (RB.new w _ _ _ _);clear h hg hn;cases m:nA x.l id with
 |true=>
  have K:=Zh m;have Y:=Zh (r m);rw[if_pos rfl,if_pos rfl];have t:Hid (∀a:TV,er a=mD x.l (x.l.length+1) id->∀i,EC i i.heap.size a->jA 89 #[.agg #[bA a.tag,bA a.txt,bA a.key,.slice a.sa.A a.sa.n a.sa.c,.slice a.sk.A a.sk.n a.sk.c]] i fun e w'=>e= .returned (bA (uM (mD x.l (x.l.length+1) id)))/\fA i w'):=Zh (fun a f i J=>by
   have:=On a i J (by rw[f];exact C8 _ Y.1) (by rw[f];have:=Y.2;omega);rw[f] at this;exact this)
  generalize uM (mD x.l (x.l.length+1) id)=Z at t|-;clear r m;go_enter func50,ntmps50;go_upto_region 1 with fail;obtain⟨gz,c⟩:=DA w.heap.size;generalize w.alloc (.cells #[aA 0,oA,aA 0,aA 0] 38)=W at b j|-;have u:=Zh c;rw[c] at j|-;clear c;have C:=Zh (H.below b);have L:=C.c0;go_wp2_with fail;refine(I W b).mono ?_;rintro e d (⟨_,a,rfl,f,D,y⟩|⟨E,_⟩)
  ·have F:=Zh f;have z:=Zh (b.trans (y.mono b.size));have A:=Zh (j.below y (JA j));have G:=Zh D;clear y I L f D b j C;go_upto_region 2 with fail;have n:=Zh (TB.new d a);have o:fA d (d.alloc (.cells #[bA a.tag,bA a.txt,bA a.key,.slice a.sa.A a.sa.n a.sa.c,.slice a.sk.A a.sk.n a.sk.c] 81)):=Zb _ _;have B:=Zh (z.trans (o.mono z.size));have q:=Zh (A.below o (JA A));have M:=Zh (t a F _ (G.on o));clear o t G F;generalize d.alloc (.cells #[bA a.tag,bA a.txt,bA a.key,.slice a.sa.A a.sa.n a.sa.c,.slice a.sk.A a.sk.n a.sk.c] 81)=wa at n B q M|-;generalize d.heap.size=gb at n|-;have a0:=n.c0;have a1:=n.c1;have a2:=n.c2;have a3:=n.c3;have a4:=n.c4;go_wp2_with fail;refine M.mono ?_;rintro e w3 ⟨rfl,N⟩;have B3:=Zh (B.trans (N.mono B.size));obtain⟨O,P,Q,R,l,S⟩:=oH (q.below N (JA q));have T:=l 0;have U:=l 1;have V:=l 2;have X:=l 3;clear N M a0 a1 a2 a3 a4 n B q A z;go_wp2_with fail;refine bodyPost_ret (v:=.tuple #[.agg #[aA 0,bA Z,aA 0,aA 0],.nilIface]) (by simp[results,results50,go_sem,O,P,Q,R,S]) rfl ⟨rfl,rF B3 ?_⟩;rw[u.out];exact mA (mA (mA (mA (iA.refl _ _))))
  ·rw[K.out] at E;cases E
 |false=>
  have K:=Zh m;rw[if_neg pA,if_neg pA];clear r m;go_enter func50,ntmps50;go_upto_region 1 with fail;obtain⟨gz,c⟩:=DA w.heap.size;generalize w.alloc (.cells #[aA 0,oA,aA 0,aA 0] 38)=W at b j|-;have u:=Zh c;rw[c] at j|-;clear c;have C:=Zh (H.below b);have L:=C.c0;go_wp2_with fail;refine(I W b).mono ?_;rintro e d (⟨E,_⟩|⟨_,rfl,y⟩)
  ·rw[K.out] at E;cases E
  ·have z:=Zh (b.trans (y.mono b.size));have A:=Zh (j.below y (JA j));clear y I L b j C;go_upto_region 2 with fail;have o:fA d (d.alloc (.cells #[oA,oA,oA,tA,tA] 81)):=Zb _ _;have B:=Zh (z.trans (o.mono z.size));have q:=Zh (A.below o (JA A));clear o;generalize d.alloc (.cells #[oA,oA,oA,tA,tA] 81)=wa at B q|-;generalize d.heap.size=gb;obtain⟨O,P,Q,R,l,S⟩:=oH q;have T:=l 0;have U:=l 1;have V:=l 2;have X:=l 3;clear A z q;go_wp2_with fail;refine bodyPost_ret (v:=.tuple #[.agg #[aA 0,oA,aA 0,aA 0],.iface 29 (aA 2)]) (by simp[results,results50,go_sem,O,P,Q,R,S]) rfl ⟨rfl,rF B ?_⟩;rw[u.out];exact mA (mA (mA (mA (iA.refl _ _))))
theorem Yk(ps:List Int)(A:vA)(n cc:Nat)(h:iD w s g p x vd rs)(hw:WF x.d)(hl:ps.length=n)(h6:n<=1000000)(hp:kI.AA w w.heap.size A ps):
 jA 51 #[lA s,.slice A n cc] w (jO w ⟨#[]⟩ (vH (ME x.l 1 ps)).1 (if(vH (ME x.l 1 ps)).2=true then 0 else 2)):=by
 have H:=Zh h;have l:=Zh (fun J (h9:fA w J)=>Es ps A n cc J hl h6 (hp.on h9) hw (h.dc.below h9));have q:Hid ((vH (ME x.l 1 ps)).2=false->(vH (ME x.l 1 ps)).1=0):=Zh (fun e=>by cases hd:ME x.l 1 ps with|none=>rfl|some i=>rw[hd] at e;cases e);have a:Hid (fA w (w.alloc (.cells #[aA 0,oA,aA 0,aA 0] 38))):=Zh ((Below.refl _ w).alloc Zl _);have d:Hid (RB (w.alloc (.cells #[aA 0,oA,aA 0,aA 0] 38)) w.heap.size 0 ⟨#[]⟩ 0 0):=Zh (RB.new w _ _ _ _);clear h hw hl hp;generalize vH (ME x.l 1 ps)=r at l q|-;obtain⟨i,K⟩:=r;simp only at l q|-;obtain⟨cc2,b⟩:∃k:Int,(if K=true then(0:Int) else 2)=k:=⟨_,rfl⟩;have m:=Zh b;rw[b];clear b;go_enter func51,ntmps51;go_upto_region 1 with fail;obtain⟨N,f⟩:=DA w.heap.size;generalize w.alloc (.cells #[aA 0,oA,aA 0,aA 0] 38)=W at a d|-;have o:=Zh f;rw[f] at d|-;clear f;have t:=Zh (H.below a);have L:=t.c0;cases K with
 |true=>
  obtain rfl:(0:Int)=cc2:=m;go_wp2_with fail;refine(l W a).mono ?_;rintro e M ⟨rfl,j⟩;have u:=Zh (a.trans (j.mono a.size));obtain⟨y,z,B,C,c,D⟩:=oH (d.below j (JA d));have E:=c 0;have F:=c 1;have G:=c 2;have I:=c 3;clear j l L a d t;go_wp2_with fail;refine bodyPost_ret (v:=.tuple #[.agg #[aA 0,oA,aA i,aA 0],.nilIface]) (by simp[results,results51,go_sem,y,z,B,C,D]) rfl ⟨rfl,rF u ?_⟩;rw[o.out];exact mA (mA (mA (mA (iA.refl _ _))))
 |false=>
  obtain rfl:=q rfl;obtain rfl:(2:Int)=cc2:=m;go_wp2_with fail;refine(l W a).mono ?_;rintro e M ⟨rfl,j⟩;have u:=Zh (a.trans (j.mono a.size));obtain⟨y,z,B,C,c,D⟩:=oH (d.below j (JA d));have E:=c 0;have F:=c 1;have G:=c 2;have I:=c 3;clear j l L a d t;go_wp2_with fail;refine bodyPost_ret (v:=.tuple #[.agg #[aA 0,oA,aA 0,aA 0],.iface 29 (aA 2)]) (by simp[results,results51,go_sem,y,z,B,C,D]) rfl ⟨rfl,rF u ?_⟩;rw[o.out];exact mA (mA (mA (mA (iA.refl _ _))))
theorem Wh(k:Int)(w:World)(hE:ErrT w):jA 25 #[.iface 29 (aA k)] w fun e w'=>e= .returned (aA k)/\fA w w':=by
 have j:=Zh hE;have a:Hid (fA w (w.alloc (.cells #[aA 0] 29))):=Zh ((Below.refl _ w).alloc Zl _);have c:Hid ((w.alloc (.cells #[aA 0] 29)).heap[w.heap.size]? = some (.cells #[aA 0] 29 (0,0))):=Zh (heap_alloc_new w _);clear hE;go_enter func25,ntmps25;go_upto_region 2 with fail;obtain⟨d,b⟩:=DA w.heap.size;generalize w.alloc (.cells #[aA 0] 29)=W at a c|-;have f:=Zh b;rw[b] at c|-;clear b;have g:Hid (jA 52 #[.iface 29 (aA k),.iface 109 (lA d)] W fun e w'=>e= .returned (.bool true)/\w'.cell? (cA d 0)=some (aA k)/\fA w w'):=Zh ((Yt k (cA d 0) _ W (YV j a) (cell_of_row W d 0 _ _ (0,0) c) (by have:=c.out;simp[World.frozen?,this])).mono (fun e w' h=>by
  obtain⟨rfl,rfl⟩:=h;have m:=JA c;refine⟨rfl,?_,?_⟩
  ·exact cell_of_row _ d 0 _ _ (0,0) (heap_setCell_same _ d 0 _ _ _ (JB (JB (JB (JB c)))))
  ·refine rF a ?_;rw[f.out];exact mA ((((iA.refl _ _).alloc _).alloc _ |>.alloc _).alloc _)))
 go_wp2_with fail;refine g.mono ?_;rintro e n ⟨rfl,o,i⟩;have l:=Zh i;clear i g;go_wp2_with fail;go_ret;exact⟨rfl,l⟩
def XI(w:World)(g p:Nat)(x:Dx)(vd:Value)(r:kL)(e:Ending)(w':World):Prop:=
 ∃(x':Dx) (vd':Value) (rs':List RR),e= .returned (.tuple #[.agg #[aA 0,bA r.txt,aA r.id,aA 0],QA r.code])/\wB w 0 g p x vd x' vd' rs' w'/\(x'.d,rs'.map (·.r))=r.s
theorem pP{cc:Int}(h1:w.heap.size<=gz)(D:DW w s g p x vd a gs gz S w5)(hb:iA (fun k=>k=gz) w5 wf):XI w g p x vd ⟨cc,z0,0,S⟩ (.returned (.tuple #[.agg #[aA 0,oA,aA 0,aA 0],QA cc])) wf:=by
 obtain⟨d,b,c,e,f⟩:=D.ld;exact⟨d,b,c,rfl,pR e hb h1 D.rb,f⟩
theorem eu(a:SV)(h:iD w s g p x vd [])(hg:SC x.d)(hroot:qC (RA x.l 1)=false)(hn:x.n<=80000)(hwo:JJ w)(ht:a.txt.size<=100000)
 (hb:∀w',iA (wF s g p x vd) w w'->kB.AA w' w'.heap.size a.sb.A a.bytes) (b1:a.bytes.length=a.sb.n) (b2:a.sb.n<=a.sb.c) (b3:a.sb.c<=maxLen) (b4:a.sb.A=none->a.sb.c=0) (b5:a.sb.n<=100000)
 (hp:∀w',iA (wF s g p x vd) w w'->kI.AA w' w'.heap.size a.sp.A a.places) (p1:a.places.length=a.sp.n) (p5:a.sp.n<=1000000):
 jA 24 #[lA s,.agg #[aA a.kind,aA a.id,aA a.n,bA a.txt,.slice a.sb.A a.sb.n a.sb.c,.slice a.sp.A a.sp.n a.sp.c]] w (XI w g p x vd (NC x.d a.mF)):=by
 have a2:∀d w':World,fA w d->iA (EF p x g vd) d w'->iA (wF s g p x vd) w w':=fun d w' h1 h2=>(iA.oB h1 _).trans h2 (fun i _ hi=> .inr hi)
 have CL:Hid (∀d,fA w d->jA 47 #[lA s,bA a.txt] d (wM d g p x vd (fF (x.d,[]) a.txt.data.toList))):=Zh (fun d t=>Nk a.txt (h.below t) hg hroot hn (hwo.2.1.on t) ht);have CI:Hid (∀d,fA w d->jA 48 #[lA g,lA p,aA a.id,.slice a.sb.A a.sb.n a.sb.c] d (tI d 0 g p x vd [] a.id a.bytes false)):=Zh (fun d t=>Ub.inner d 0 g p x vd [] a.id a.bytes a.sb.A a.sb.n a.sb.c (h.dc.below t) hg hn (h.lg.below t) (by simp) (fun w' h2=>hb w' (a2 d w' t h2)) b1 b2 b3 b4 b5);have CU:Hid (∀d,fA w d->jA 49 #[lA g,lA p,aA a.id,.slice a.sb.A a.sb.n a.sb.c] d (tI d 0 g p x vd [] a.id a.bytes true)):=Zh (fun d t=>Ub.outer d 0 g p x vd [] a.id a.bytes a.sb.A a.sb.n a.sb.c (h.dc.below t) hg hn (h.lg.below t) (by simp) (fun w' h2=>hb w' (a2 d w' t h2)) b1 b2 b3 b4 b5);have CF:Hid (∀d,fA w d->jA 21 #[lA p,aA a.id] d (Made d 0 p x (QA (gE x.d a.id).1) (gE x.d a.id).2)):=Zh (fun d t=>oQ a.id d (h.dc.below t));have CN:Hid (∀d,fA w d->jA 20 #[lA p,aA a.id,aA a.n] d (Made d 0 p x (QA (JE x.d a.id a.n).1) (JE x.d a.id a.n).2)):=Zh (fun d t=>fR a.id a.n d (h.dc.below t));have V:Hid (∀d,fA w d->jA 50 #[lA s,aA a.id] d (jO d (if nA x.l a.id=true then uM (mD x.l (x.l.length+1) a.id) else⟨#[]⟩) 0 (if nA x.l a.id=true then 0 else 2))):=Zh (fun d t=>Xk a.id (h.below t) hg (by omega));have X:Hid (∀d,fA w d->jA 51 #[lA s,.slice a.sp.A a.sp.n a.sp.c] d (jO d ⟨#[]⟩ (vH (ME x.l 1 a.places)).1 (if(vH (ME x.l 1 a.places)).2=true then 0 else 2))):=Zh (fun d t=>Yk a.places a.sp.A a.sp.n a.sp.c (h.below t) hg.1 p1 p5 (hp d (iA.oB t _)));have c:Hid (ZW w s g p x vd a w.heap.size (w.heap.size+1) ((w.alloc (.cells #[aA a.kind,aA a.id,aA a.n,bA a.txt,.slice a.sb.A a.sb.n a.sb.c,.slice a.sp.A a.sp.n a.sp.c] 36)).alloc (.cells #[aA 0,bA ⟨#[]⟩,aA 0,aA 0] 38))):=
  Zh ⟨h,(Zb _ _).alloc (by simp) _,yD (by simp),JB (SB.new w a),by omega,Zl,by omega⟩
 obtain⟨r,y⟩:=DA (NC x.d a.mF);rw[y];unfold NC at y;rw[show a.mF.kind=a.kind from rfl,show a.mF.txt=a.txt from rfl,show a.mF.id=a.id from rfl,show a.mF.bytes=a.bytes from rfl,show a.mF.n=a.n from rfl,show a.mF.places=a.places from rfl,show x.d.l=x.l from rfl] at y;have G:=Zh y;clear h hg hroot hn hwo ht hb b1 b2 b3 b4 b5 hp p1 p5 a2 y;go_enter func24,ntmps24;go_upto_region 1 with fail;obtain⟨gz,a3⟩:=DA (w.heap.size+1);obtain⟨f,a4⟩:=DA w.heap.size;generalize ((w.alloc (.cells #[aA a.kind,aA a.id,aA a.n,bA a.txt,.slice a.sb.A a.sb.n a.sb.c,.slice a.sp.A a.sp.n a.sp.c] 36)).alloc (.cells #[aA 0,bA ⟨#[]⟩,aA 0,aA 0] 38))=W at c|-;rw[a3] at c|-;rw[a4] at c|-;clear a3 a4;have C:w.heap.size<=gz:=c.out.aX;have a9:=Zh C;obtain⟨H,Y⟩:=DA a.kind;have G:=G.out;rw[Y] at G;have a5:Hid (∀d,iD w s g p x vd []->SB d f a->d.cell? (cA f 0)=some (aA H)):=Zh (fun d _ hs=>by rw[<-Y];exact hs.c0);have I:Hid (∀d,ZW w s g p x vd a f gz d->d.cell? (cA s 0)=some (lA p)/\d.cell? (cA s 1)=some (lA g)/\d.cell? (cA f 0)=some (aA H)/\d.cell? (cA f 1)=some (aA a.id)/\d.cell? (cA f 2)=some (aA a.n)/\d.cell? (cA f 3)=some (bA a.txt)/\d.cell? (cA f 4)=some (.slice a.sb.A a.sb.n a.sb.c)/\d.cell? (cA f 5)=some (.slice a.sp.A a.sp.n a.sp.c)):=Zh (fun d z=>⟨z.se.c0,z.se.c1,by rw[<-Y];exact z.sb.c0,z.sb.c1,z.sb.c2,z.sb.c3,z.sb.c4,z.sb.c5⟩);have a0:Hid (∀S d,DW w s g p x vd a f gz S d->d.cell? (cA s 0)=some (lA p)/\d.cell? (cA s 1)=some (lA g)/\d.cell? (cA f 0)=some (aA H)/\d.cell? (cA f 1)=some (aA a.id)/\d.cell? (cA f 2)=some (aA a.n)/\d.cell? (cA f 3)=some (bA a.txt)/\d.cell? (cA f 4)=some (.slice a.sb.A a.sb.n a.sb.c)/\d.cell? (cA f 5)=some (.slice a.sp.A a.sp.n a.sp.c)):=Zh (fun S d z=>⟨z.c0,z.c1,by rw[<-Y];exact z.sb.c0,z.sb.c1,z.sb.c2,z.sb.c3,z.sb.c4,z.sb.c5⟩);have a6:=c.out.ne;have a7:s≠gz:=fun e=>by have:=JA c.out.bI.zA;omega
 have a1:∀d:World,(d.cell? (cA s 0)=some (lA p)/\d.cell? (cA s 1)=some (lA g)/\d.cell? (cA f 0)=some (aA H)/\d.cell? (cA f 1)=some (aA a.id)/\d.cell? (cA f 2)=some (aA a.n)/\d.cell? (cA f 3)=some (bA a.txt)/\d.cell? (cA f 4)=some (.slice a.sb.A a.sb.n a.sb.c)/\d.cell? (cA f 5)=some (.slice a.sp.A a.sp.n a.sp.c))->((((d.setCell (cA gz 0) (aA 0)).setCell (cA gz 1) (bA ⟨#[]⟩)).setCell (cA gz 2) (aA 0)).setCell (cA gz 3) (aA 0)).cell? (cA s 0)=some (lA p)/\((((d.setCell (cA gz 0) (aA 0)).setCell (cA gz 1) (bA ⟨#[]⟩)).setCell (cA gz 2) (aA 0)).setCell (cA gz 3) (aA 0)).cell? (cA s 1)=some (lA g)/\((((d.setCell (cA gz 0) (aA 0)).setCell (cA gz 1) (bA ⟨#[]⟩)).setCell (cA gz 2) (aA 0)).setCell (cA gz 3) (aA 0)).cell? (cA f 0)=some (aA H)/\((((d.setCell (cA gz 0) (aA 0)).setCell (cA gz 1) (bA ⟨#[]⟩)).setCell (cA gz 2) (aA 0)).setCell (cA gz 3) (aA 0)).cell? (cA f 1)=some (aA a.id)/\((((d.setCell (cA gz 0) (aA 0)).setCell (cA gz 1) (bA ⟨#[]⟩)).setCell (cA gz 2) (aA 0)).setCell (cA gz 3) (aA 0)).cell? (cA f 2)=some (aA a.n)/\((((d.setCell (cA gz 0) (aA 0)).setCell (cA gz 1) (bA ⟨#[]⟩)).setCell (cA gz 2) (aA 0)).setCell (cA gz 3) (aA 0)).cell? (cA f 3)=some (bA a.txt)/\((((d.setCell (cA gz 0) (aA 0)).setCell (cA gz 1) (bA ⟨#[]⟩)).setCell (cA gz 2) (aA 0)).setCell (cA gz 3) (aA 0)).cell? (cA f 4)=some (.slice a.sb.A a.sb.n a.sb.c)/\((((d.setCell (cA gz 0) (aA 0)).setCell (cA gz 1) (bA ⟨#[]⟩)).setCell (cA gz 2) (aA 0)).setCell (cA gz 3) (aA 0)).cell? (cA f 5)=some (.slice a.sp.A a.sp.n a.sp.c):=fun d hS=>by
  have k1:∀(b o j:Nat) (u:Value),b≠gz->∀wy:World,(wy.setCell (cA gz j) u).cell? (cA b o)=wy.cell? (cA b o):=fun b o j u hb wy=>World.cell?_setCell_far wy _ _ _ (fun e=>hb e.symm)
  simp only[k1 _ _ _ _ a7,k1 _ _ _ _ a6];exact hS
 have a8:=I.out W c.out;obtain⟨d0,d1,d2,d3,d4,d5,d6,d7⟩:=a8;obtain⟨K,L,M,N,q,t⟩:=oH c.out.rb;have O:=q 0;have P:=q 1;have Q:=q 2;have R:=q 3;clear Y a5;by_cases h1:H=1
 ·subst h1;have y:=G;rw[if_pos (by decide)] at y;subst y;obtain⟨E,l⟩:=DA (QA ((fF (x.d,[]) a.txt.data.toList).1:Nat));have m:Hid (∀d,ZW w s g p x vd a f gz d->jA 47 #[lA s,bA a.txt] d fun e n=>e= .returned E/\DW w s g p x vd a f gz (fF (x.d,[]) a.txt.data.toList).2 n):=Zh (fun d z=>(CL.out d z.bw).mono (fun e n hv=>by rw[<-l];exact XP z hv));have A:Hid (∀n B,DW w s g p x vd a f gz (fF (x.d,[]) a.txt.data.toList).2 n->iA (fun k=>k=gz) n B->XI w g p x vd ⟨((fF (x.d,[]) a.txt.data.toList).1:Nat),z0,0,(fF (x.d,[]) a.txt.data.toList).2⟩ (.returned (.tuple #[.agg #[aA 0,bA ⟨#[]⟩,aA 0,aA 0],E])) B):=Zh (fun n B D hb=>by rw[<-l];exact pP C D hb);clear l G I CL CI CU CF CN V X;go_wp2_with fail;refine(m.out W c.out).mono ?_;rintro e n ⟨rfl,F⟩;obtain⟨K,L,M,N,q,t⟩:=oH F.rb;have O:=q 0;have P:=q 1;have Q:=q 2;have R:=q 3;have J:=Zh F;clear F;go_wp2_with fail;refine bodyPost_ret (v:=.tuple #[.agg #[aA 0,bA ⟨#[]⟩,aA 0,aA 0],E]) (by simp[results,results24,go_sem,K,L,M,N,t]) rfl ?_;exact A.out _ _ J.out (by first|with_reducible exact iA.refl _ _|with_reducible exact mA (mA (mA (mA (iA.refl _ _))))|with_reducible exact(iA.refl _ _).drew|with_reducible exact(iA.refl _ _).drewN _|with_reducible exact(mA (mA (mA (mA (iA.refl _ _))))).drew|with_reducible exact(mA (mA (mA (mA (iA.refl _ _))))).drewN _)
 by_cases h2:H=2
 ·subst h2;have y:=G;rw[if_neg (by decide),if_pos (by decide)] at y;rw[show decide ((2:Int)=3)=false from rfl] at y;subst y;obtain⟨E,l⟩:=DA (QA ((pD (x.d,[]) a.id a.bytes false).1:Nat));have m:Hid (∀d,ZW w s g p x vd a f gz d->jA 48 #[lA g,lA p,aA a.id,.slice a.sb.A a.sb.n a.sb.c] d fun e n=>e= .returned E/\DW w s g p x vd a f gz (pD (x.d,[]) a.id a.bytes false).2 n):=Zh (fun d z=>(CI.out d z.bw).mono (fun e n hv=>by rw[<-l];exact XP z hv));have A:Hid (∀n B,DW w s g p x vd a f gz (pD (x.d,[]) a.id a.bytes false).2 n->iA (fun k=>k=gz) n B->XI w g p x vd ⟨((pD (x.d,[]) a.id a.bytes false).1:Nat),z0,0,(pD (x.d,[]) a.id a.bytes false).2⟩ (.returned (.tuple #[.agg #[aA 0,bA ⟨#[]⟩,aA 0,aA 0],E])) B):=Zh (fun n B D hb=>by rw[<-l];exact pP C D hb);clear l G I CL CI CU CF CN V X;have T:W.cell? (cA s 0)=some (lA p)/\W.cell? (cA s 1)=some (lA g)/\W.cell? (cA f 0)=some (aA 2)/\W.cell? (cA f 1)=some (aA a.id)/\W.cell? (cA f 2)=some (aA a.n)/\W.cell? (cA f 3)=some (bA a.txt)/\W.cell? (cA f 4)=some (.slice a.sb.A a.sb.n a.sb.c)/\W.cell? (cA f 5)=some (.slice a.sp.A a.sp.n a.sp.c):=⟨d0,d1,d2,d3,d4,d5,d6,d7⟩;go_upto_region 5 with fail;go_region_held3 (fun w'=>w'.cell? (cA s 0)=some (lA p)/\w'.cell? (cA s 1)=some (lA g)/\w'.cell? (cA f 0)=some (aA 2)/\w'.cell? (cA f 1)=some (aA a.id)/\w'.cell? (cA f 2)=some (aA a.n)/\w'.cell? (cA f 3)=some (bA a.txt)/\w'.cell? (cA f 4)=some (.slice a.sb.A a.sb.n a.sb.c)/\w'.cell? (cA f 5)=some (.slice a.sp.A a.sp.n a.sp.c)) (first|go_keep|exact T|exact a1 _ hHeld) ((first
   |(go_at_call 48;refine(m.out _ (by first|with_reducible exact c.out.put.drewN _|with_reducible exact c.out.put.drew|with_reducible exact c.out.put|with_reducible exact(c.out.drewN _).put|with_reducible exact c.out.drew.put|with_reducible exact c.out.drewN _|with_reducible exact c.out.drew|with_reducible exact c.out)).mono ?_;rintro e n ⟨rfl,F⟩;have T:=a0.out _ _ F;obtain⟨K,L,M,N,q,t⟩:=oH F.rb;have O:=q 0;have P:=q 1;have Q:=q 2;have R:=q 3;have J:=Zh F;clear F)
   |fail))
  all_goals
   clear T;go_wp2_with fail;refine bodyPost_ret (v:=.tuple #[.agg #[aA 0,bA ⟨#[]⟩,aA 0,aA 0],E]) (by simp[results,results24,go_sem,K,L,M,N,t]) rfl ?_;exact A.out _ _ J.out (by first|with_reducible exact iA.refl _ _|with_reducible exact mA (mA (mA (mA (iA.refl _ _))))|with_reducible exact(iA.refl _ _).drew|with_reducible exact(iA.refl _ _).drewN _|with_reducible exact(mA (mA (mA (mA (iA.refl _ _))))).drew|with_reducible exact(mA (mA (mA (mA (iA.refl _ _))))).drewN _)
 by_cases h3:H=3
 ·subst h3;have y:=G;rw[if_neg (by decide),if_pos (by decide)] at y;rw[show decide ((3:Int)=3)=true from rfl] at y;subst y;obtain⟨E,l⟩:=DA (QA ((pD (x.d,[]) a.id a.bytes true).1:Nat));have m:Hid (∀d,ZW w s g p x vd a f gz d->jA 49 #[lA g,lA p,aA a.id,.slice a.sb.A a.sb.n a.sb.c] d fun e n=>e= .returned E/\DW w s g p x vd a f gz (pD (x.d,[]) a.id a.bytes true).2 n):=Zh (fun d z=>(CU.out d z.bw).mono (fun e n hv=>by rw[<-l];exact XP z hv));have A:Hid (∀n B,DW w s g p x vd a f gz (pD (x.d,[]) a.id a.bytes true).2 n->iA (fun k=>k=gz) n B->XI w g p x vd ⟨((pD (x.d,[]) a.id a.bytes true).1:Nat),z0,0,(pD (x.d,[]) a.id a.bytes true).2⟩ (.returned (.tuple #[.agg #[aA 0,bA ⟨#[]⟩,aA 0,aA 0],E])) B):=Zh (fun n B D hb=>by rw[<-l];exact pP C D hb);clear l G I CL CI CU CF CN V X;have T:W.cell? (cA s 0)=some (lA p)/\W.cell? (cA s 1)=some (lA g)/\W.cell? (cA f 0)=some (aA 3)/\W.cell? (cA f 1)=some (aA a.id)/\W.cell? (cA f 2)=some (aA a.n)/\W.cell? (cA f 3)=some (bA a.txt)/\W.cell? (cA f 4)=some (.slice a.sb.A a.sb.n a.sb.c)/\W.cell? (cA f 5)=some (.slice a.sp.A a.sp.n a.sp.c):=⟨d0,d1,d2,d3,d4,d5,d6,d7⟩;go_upto_region 7 with fail;go_region_held3 (fun w'=>w'.cell? (cA s 0)=some (lA p)/\w'.cell? (cA s 1)=some (lA g)/\w'.cell? (cA f 0)=some (aA 3)/\w'.cell? (cA f 1)=some (aA a.id)/\w'.cell? (cA f 2)=some (aA a.n)/\w'.cell? (cA f 3)=some (bA a.txt)/\w'.cell? (cA f 4)=some (.slice a.sb.A a.sb.n a.sb.c)/\w'.cell? (cA f 5)=some (.slice a.sp.A a.sp.n a.sp.c)) (first|go_keep|exact T|exact a1 _ hHeld) ((first
   |(go_at_call 49;refine(m.out _ (by first|with_reducible exact c.out.put.drewN _|with_reducible exact c.out.put.drew|with_reducible exact c.out.put|with_reducible exact(c.out.drewN _).put|with_reducible exact c.out.drew.put|with_reducible exact c.out.drewN _|with_reducible exact c.out.drew|with_reducible exact c.out)).mono ?_;rintro e n ⟨rfl,F⟩;have T:=a0.out _ _ F;obtain⟨K,L,M,N,q,t⟩:=oH F.rb;have O:=q 0;have P:=q 1;have Q:=q 2;have R:=q 3;have J:=Zh F;clear F)
   |fail))
  all_goals
   clear T;go_wp2_with fail;refine bodyPost_ret (v:=.tuple #[.agg #[aA 0,bA ⟨#[]⟩,aA 0,aA 0],E]) (by simp[results,results24,go_sem,K,L,M,N,t]) rfl ?_;exact A.out _ _ J.out (by first|with_reducible exact iA.refl _ _|with_reducible exact mA (mA (mA (mA (iA.refl _ _))))|with_reducible exact(iA.refl _ _).drew|with_reducible exact(iA.refl _ _).drewN _|with_reducible exact(mA (mA (mA (mA (iA.refl _ _))))).drew|with_reducible exact(mA (mA (mA (mA (iA.refl _ _))))).drewN _)
 by_cases h4:H=4
 ·subst h4;have y:=G;rw[if_neg (by decide),if_neg (by decide),if_pos (by decide)] at y;subst y;obtain⟨E,l⟩:=DA (QA (gE x.d a.id).1);have m:Hid (∀d,ZW w s g p x vd a f gz d->jA 21 #[lA p,aA a.id] d fun e n=>e= .returned E/\DW w s g p x vd a f gz ((gE x.d a.id).2,[]) n):=Zh (fun d z=>(CF.out d z.bw).mono (fun e n hv=>by rw[<-l];exact XP z (Wb z.se hv)));have A:Hid (∀n B,DW w s g p x vd a f gz ((gE x.d a.id).2,[]) n->iA (fun k=>k=gz) n B->XI w g p x vd ⟨(gE x.d a.id).1,z0,0,((gE x.d a.id).2,[])⟩ (.returned (.tuple #[.agg #[aA 0,bA ⟨#[]⟩,aA 0,aA 0],E])) B):=Zh (fun n B D hb=>by rw[<-l];exact pP C D hb);clear l G I CL CI CU CF CN V X;have T:W.cell? (cA s 0)=some (lA p)/\W.cell? (cA s 1)=some (lA g)/\W.cell? (cA f 0)=some (aA 4)/\W.cell? (cA f 1)=some (aA a.id)/\W.cell? (cA f 2)=some (aA a.n)/\W.cell? (cA f 3)=some (bA a.txt)/\W.cell? (cA f 4)=some (.slice a.sb.A a.sb.n a.sb.c)/\W.cell? (cA f 5)=some (.slice a.sp.A a.sp.n a.sp.c):=⟨d0,d1,d2,d3,d4,d5,d6,d7⟩;go_upto_region 9 with fail;go_region_held3 (fun w'=>w'.cell? (cA s 0)=some (lA p)/\w'.cell? (cA s 1)=some (lA g)/\w'.cell? (cA f 0)=some (aA 4)/\w'.cell? (cA f 1)=some (aA a.id)/\w'.cell? (cA f 2)=some (aA a.n)/\w'.cell? (cA f 3)=some (bA a.txt)/\w'.cell? (cA f 4)=some (.slice a.sb.A a.sb.n a.sb.c)/\w'.cell? (cA f 5)=some (.slice a.sp.A a.sp.n a.sp.c)) (first|go_keep|exact T|exact a1 _ hHeld) ((first
   |(go_at_call 21;refine(m.out _ (by first|with_reducible exact c.out.put.drewN _|with_reducible exact c.out.put.drew|with_reducible exact c.out.put|with_reducible exact(c.out.drewN _).put|with_reducible exact c.out.drew.put|with_reducible exact c.out.drewN _|with_reducible exact c.out.drew|with_reducible exact c.out)).mono ?_;rintro e n ⟨rfl,F⟩;have T:=a0.out _ _ F;obtain⟨K,L,M,N,q,t⟩:=oH F.rb;have O:=q 0;have P:=q 1;have Q:=q 2;have R:=q 3;have J:=Zh F;clear F)
   |fail))
  all_goals
   clear T;go_wp2_with fail;refine bodyPost_ret (v:=.tuple #[.agg #[aA 0,bA ⟨#[]⟩,aA 0,aA 0],E]) (by simp[results,results24,go_sem,K,L,M,N,t]) rfl ?_;exact A.out _ _ J.out (by first|with_reducible exact iA.refl _ _|with_reducible exact mA (mA (mA (mA (iA.refl _ _))))|with_reducible exact(iA.refl _ _).drew|with_reducible exact(iA.refl _ _).drewN _|with_reducible exact(mA (mA (mA (mA (iA.refl _ _))))).drew|with_reducible exact(mA (mA (mA (mA (iA.refl _ _))))).drewN _)
 by_cases Z:H=5
 ·subst Z;have y:=G;rw[if_neg (by decide),if_neg (by decide),if_neg (by decide),if_pos (by decide)] at y;subst y;obtain⟨E,l⟩:=DA (QA (JE x.d a.id a.n).1);have m:Hid (∀d,ZW w s g p x vd a f gz d->jA 20 #[lA p,aA a.id,aA a.n] d fun e n=>e= .returned E/\DW w s g p x vd a f gz ((JE x.d a.id a.n).2,[]) n):=Zh (fun d z=>(CN.out d z.bw).mono (fun e n hv=>by rw[<-l];exact XP z (Wb z.se hv)));have A:Hid (∀n B,DW w s g p x vd a f gz ((JE x.d a.id a.n).2,[]) n->iA (fun k=>k=gz) n B->XI w g p x vd ⟨(JE x.d a.id a.n).1,z0,0,((JE x.d a.id a.n).2,[])⟩ (.returned (.tuple #[.agg #[aA 0,bA ⟨#[]⟩,aA 0,aA 0],E])) B):=Zh (fun n B D hb=>by rw[<-l];exact pP C D hb);clear l G I CL CI CU CF CN V X;have T:W.cell? (cA s 0)=some (lA p)/\W.cell? (cA s 1)=some (lA g)/\W.cell? (cA f 0)=some (aA 5)/\W.cell? (cA f 1)=some (aA a.id)/\W.cell? (cA f 2)=some (aA a.n)/\W.cell? (cA f 3)=some (bA a.txt)/\W.cell? (cA f 4)=some (.slice a.sb.A a.sb.n a.sb.c)/\W.cell? (cA f 5)=some (.slice a.sp.A a.sp.n a.sp.c):=⟨d0,d1,d2,d3,d4,d5,d6,d7⟩;go_upto_region 11 with fail;go_region_held3 (fun w'=>w'.cell? (cA s 0)=some (lA p)/\w'.cell? (cA s 1)=some (lA g)/\w'.cell? (cA f 0)=some (aA 5)/\w'.cell? (cA f 1)=some (aA a.id)/\w'.cell? (cA f 2)=some (aA a.n)/\w'.cell? (cA f 3)=some (bA a.txt)/\w'.cell? (cA f 4)=some (.slice a.sb.A a.sb.n a.sb.c)/\w'.cell? (cA f 5)=some (.slice a.sp.A a.sp.n a.sp.c)) (first|go_keep|exact T|exact a1 _ hHeld) ((first
   |(go_at_call 20;refine(m.out _ (by first|with_reducible exact c.out.put.drewN _|with_reducible exact c.out.put.drew|with_reducible exact c.out.put|with_reducible exact(c.out.drewN _).put|with_reducible exact c.out.drew.put|with_reducible exact c.out.drewN _|with_reducible exact c.out.drew|with_reducible exact c.out)).mono ?_;rintro e n ⟨rfl,F⟩;have T:=a0.out _ _ F;obtain⟨K,L,M,N,q,t⟩:=oH F.rb;have O:=q 0;have P:=q 1;have Q:=q 2;have R:=q 3;have J:=Zh F;clear F)
   |fail))
  all_goals
   clear T;go_wp2_with fail;refine bodyPost_ret (v:=.tuple #[.agg #[aA 0,bA ⟨#[]⟩,aA 0,aA 0],E]) (by simp[results,results24,go_sem,K,L,M,N,t]) rfl ?_;exact A.out _ _ J.out (by first|with_reducible exact iA.refl _ _|with_reducible exact mA (mA (mA (mA (iA.refl _ _))))|with_reducible exact(iA.refl _ _).drew|with_reducible exact(iA.refl _ _).drewN _|with_reducible exact(mA (mA (mA (mA (iA.refl _ _))))).drew|with_reducible exact(mA (mA (mA (mA (iA.refl _ _))))).drewN _)
 by_cases h6:H=6
 ·subst h6;have y:=G;rw[if_neg (by decide),if_neg (by decide),if_neg (by decide),if_neg (by decide),if_pos (by decide)] at y;have U:Hid ((⟨(if nA x.l a.id=true then 0 else 2),(if nA x.l a.id=true then uM (mD x.l (x.l.length+1) a.id) else⟨#[]⟩),0,(x.d,[])⟩:kL)=r):=Zh (by
   rw[<-y];cases nA x.l a.id<;>rfl)
  generalize (if nA x.l a.id=true then uM (mD x.l (x.l.length+1) a.id) else⟨#[]⟩)=tx at V U;generalize (if nA x.l a.id=true then(0:Int) else 2)=cc at V U;obtain⟨E,l⟩:=DA (QA cc);have m:=Zh (V.out W c.out.bw);unfold jO at m;rw[l] at m;have A:Hid (∀n B,fA W n->iA (fun k=>k=gz) n B->XI w g p x vd r (.returned (.tuple #[.agg #[aA 0,bA tx,aA 0,aA 0],E])) B):=Zh (fun n B Z hb=>by
   have B5:=c.out.bw.trans (Z.mono c.out.bw.size);rw[<-l,<-U.out];exact⟨x,vd,[],rfl,pR (wB.same c.out.bI.dc c.out.bI.lg B5) hb C (c.out.rb.below Z (JA c.out.rb)),rfl⟩)
  clear l y G I CL CI CU CF CN V X;go_wp2_with fail;refine m.out.mono ?_;rintro e n ⟨rfl,b5⟩;obtain⟨K,L,M,N,q,t⟩:=oH (c.out.rb.below b5 (JA c.out.rb));have O:=q 0;have P:=q 1;have Q:=q 2;have R:=q 3;have B5:=Zh b5;clear b5;go_wp2_with fail;refine bodyPost_ret (v:=.tuple #[.agg #[aA 0,bA tx,aA 0,aA 0],E]) (by simp[results,results24,go_sem,K,L,M,N,t]) rfl ?_;exact A.out _ _ B5.out (by first|with_reducible exact iA.refl _ _|with_reducible exact mA (mA (mA (mA (iA.refl _ _))))|with_reducible exact(iA.refl _ _).drew|with_reducible exact(iA.refl _ _).drewN _|with_reducible exact(mA (mA (mA (mA (iA.refl _ _))))).drew|with_reducible exact(mA (mA (mA (mA (iA.refl _ _))))).drewN _)
 by_cases h7:H=7
 ·subst h7;have y:=G;rw[if_neg (by decide),if_neg (by decide),if_neg (by decide),if_neg (by decide),if_neg (by decide),if_pos (by decide)] at y;have U:Hid ((⟨(if(vH (ME x.l 1 a.places)).2=true then 0 else 2),⟨#[]⟩,(vH (ME x.l 1 a.places)).1,(x.d,[])⟩:kL)=r):=Zh (by
   rw[<-y];cases ME x.l 1 a.places<;>rfl)
  generalize (if(vH (ME x.l 1 a.places)).2=true then(0:Int) else 2)=cc at X U;generalize (vH (ME x.l 1 a.places)).1=ii at X U;obtain⟨E,l⟩:=DA (QA cc);have m:=Zh (X.out W c.out.bw);unfold jO at m;rw[l] at m;have A:Hid (∀n B,fA W n->iA (fun k=>k=gz) n B->XI w g p x vd r (.returned (.tuple #[.agg #[aA 0,bA ⟨#[]⟩,aA ii,aA 0],E])) B):=Zh (fun n B Z hb=>by
   have B5:=c.out.bw.trans (Z.mono c.out.bw.size);rw[<-l,<-U.out];exact⟨x,vd,[],rfl,pR (wB.same c.out.bI.dc c.out.bI.lg B5) hb C (c.out.rb.below Z (JA c.out.rb)),rfl⟩)
  clear l y G I CL CI CU CF CN V X;go_wp2_with fail;refine m.out.mono ?_;rintro e n ⟨rfl,b5⟩;obtain⟨K,L,M,N,q,t⟩:=oH (c.out.rb.below b5 (JA c.out.rb));have O:=q 0;have P:=q 1;have Q:=q 2;have R:=q 3;have B5:=Zh b5;clear b5;go_wp2_with fail;refine bodyPost_ret (v:=.tuple #[.agg #[aA 0,bA ⟨#[]⟩,aA ii,aA 0],E]) (by simp[results,results24,go_sem,K,L,M,N,t]) rfl ?_;exact A.out _ _ B5.out (by first|with_reducible exact iA.refl _ _|with_reducible exact mA (mA (mA (mA (iA.refl _ _))))|with_reducible exact(iA.refl _ _).drew|with_reducible exact(iA.refl _ _).drewN _|with_reducible exact(mA (mA (mA (mA (iA.refl _ _))))).drew|with_reducible exact(mA (mA (mA (mA (iA.refl _ _))))).drewN _)
 have y:=G;rw[if_neg h1,if_neg (by omega),if_neg h4,if_neg Z,if_neg h6,if_neg h7] at y;have q1:(H==1)=false:=(by simpa using h1);have q2:(H==2)=false:=(by simpa using h2);have q3:(H==3)=false:=(by simpa using h3);have q4:(H==4)=false:=(by simpa using h4);have q5:(H==5)=false:=(by simpa using Z);have q6:(H==6)=false:=(by simpa using h6);have q7:(H==7)=false:=(by simpa using h7);have A:Hid (∀B,iA (fun k=>k=gz) W B->XI w g p x vd r (.returned (.tuple #[.agg #[aA 0,bA ⟨#[]⟩,aA 0,aA 0],.iface 29 (aA 1)])) B):=Zh (fun B hb=>by
  rw[<-y];exact⟨x,vd,[],by rw[Hd];rfl,pR (wB.same c.out.bI.dc c.out.bI.lg c.out.bw) hb C c.out.rb,rfl⟩)
 clear y G I CL CI CU CF CN V X h1 h2 h3 h4 Z h6 h7;go_wp2_with fail;refine bodyPost_ret (v:=.tuple #[.agg #[aA 0,bA ⟨#[]⟩,aA 0,aA 0],.iface 29 (aA 1)]) (by simp[results,results24,go_sem,K,L,M,N,t]) rfl ?_;exact A.out _ (by first|with_reducible exact iA.refl _ _|with_reducible exact mA (mA (mA (mA (iA.refl _ _))))|with_reducible exact(iA.refl _ _).drew|with_reducible exact(iA.refl _ _).drewN _|with_reducible exact(mA (mA (mA (mA (iA.refl _ _))))).drew|with_reducible exact(mA (mA (mA (mA (iA.refl _ _))))).drewN _)
end
section
variable{w w' w1:World}{s g g' p:Nat}{x x':Dx}{vd vd':Value}{rs rs':List RR}
theorem Mp{b:Nat}(h:w'.heap[b]? = w.heap[b]?)(i:Nat):w'.cell? (cA b i)=w.cell? (cA b i):=by simp[World.cell?,h]
theorem iD.fr(h:iD w s g p x vd rs)(i:Nat):w.frozen? (cA s i)=false:=by
 have:=h.zA;simp[World.frozen?,this]
theorem lx(h:Dc w 0 p x)(l:Lg w 0 g p vd rs)(t:YW w):¬(fC p x 0\/eG g vd 0):=fun e=>by
 obtain⟨f,i,d⟩:=t;rcases e with e|e
 ·exact h.other d pA pA pA pA pA e
 ·obtain⟨c,j,a,b⟩:=l.ty e;rw[d] at a;injection a with a;injection a with _ e2;rcases b with b|b<;>exact absurd (e2.trans b) pA
theorem Np(h:Dc w 0 p x)(l:Lg w 0 g p vd rs)(k:wB w 0 g p x vd x' vd' rs' w')(hw:JJ w):ErrT w':=by
 obtain⟨c,d,a⟩:=hw.2.2;have b:w.cell? (cA 0 0)=some (.iface 224 (.agg #[typeHandle prog 26])):=hw.1;exact(Mp (k.but.block _ (Y9 a) (lx h l hw.2.2)) 0).trans b
theorem Pp(h:iD w s g p x vd rs)(hw:JJ w)(u:Value):JJ (w.setCell (cA s 1) u):=by
 obtain⟨f,⟨m,b⟩,i,j,k⟩:=hw;have a:=h.c0;have c:w.cell? (cA 0 0)=some (.iface 224 (.agg #[typeHandle prog 26])):=f;have d:s≠0:=fun e=>by rw[e,c] at a;cases a
 have l:s≠1:=fun e=>by rw[e,b] at a;cases a
 refine⟨?_,⟨m,?_⟩,i,j,?_⟩
 ·exact(World.cell?_setCell_far w _ _ _ d).trans c
 ·exact(World.cell?_setCell_far w _ _ _ l).trans b
 ·exact(heap_setCell_other w _ _ _ (fun e=>d e.symm)).trans k
theorem Qp(h:iD w s g p x vd rs)(hg:w.heap[g']? = some (.cells #[lA p,tA] 103 (0,0))):iD (w.setCell (cA s 1) (lA g')) s g' p x (tA) []:=by
 have b:iA (fun k=>k=s) w (w.setCell (cA s 1) (lA g')):=mA (iA.refl _ _);have d:vC w (fun k=>k=s):=fun i c f j l=>by subst j;exact WA l h.zA pA rfl
 have m:g'≠s:=fun e=>by subst e;exact WA hg h.zA pA rfl
 exact⟨heap_setCell_same w s 1 _ _ _ h.zA,h.dc.but b (fun k n e=>h.ap (.inl (e▸n))) d,⟨(b.block g' (JA hg) m).trans hg,Nat.zero_le _,Kind.Own.nil _ _ _,fun a o=>by cases o⟩⟩
def xe(w:World)(s:Nat)(F:Nat->Prop)(d:D)(l:List Rc):Prop:=∃g p x vd rs,iD w s g p x vd rs/\(∀k,F k↔wF s g p x vd k)/\x.d=d/\rs.map (·.r)=l/\qC (RA d.l 1)=false
def Jd(w:World)(s g p:Nat)(x:Dx)(vd:Value)(r:kL)(e:Ending)(w':World):Prop:=
 ∃(g':Nat) (x':Dx) (vd':Value) (rs':List RR),e= .returned (.agg #[aA r.code,bA r.txt,aA r.id,aA ((r.s.2.length:Nat):Int)])/\iD w' s g' p x' vd' rs'/\(x'.d,rs'.map (·.r))=r.s/\iA (wF s g p x vd) w w'/\∀k,wF s g' p x' vd' k->wF s g p x vd k\/w.heap.size<=k
theorem ng(a:SV)(h:iD w s g p x vd rs)(hg:SC x.d)(hroot:qC (RA x.l 1)=false)(hn:x.n<=80000)(hwo:JJ w)(ht:a.txt.size<=100000)
 (hb:∀w',iA (wF s g p x vd) w w'->kB.AA w' w'.heap.size a.sb.A a.bytes) (b1:a.bytes.length=a.sb.n) (b2:a.sb.n<=a.sb.c) (b3:a.sb.c<=maxLen) (b4:a.sb.A=none->a.sb.c=0) (b5:a.sb.n<=100000)
 (hp:∀w',iA (wF s g p x vd) w w'->kI.AA w' w'.heap.size a.sp.A a.places) (p1:a.places.length=a.sp.n) (p5:a.sp.n<=1000000):
 jA 9 #[lA s,.agg #[aA a.kind,aA a.id,aA a.n,bA a.txt,.slice a.sb.A a.sb.n a.sb.c,.slice a.sp.A a.sp.n a.sp.c]] w (Jd w s g p x vd (NC x.d a.mF)):=by
 have q2:=qF;have q3:=AF;have H:=Zh h;have ah:=Zh hwo;have D:=Zh (jR hg.1 a.mF);have E:=Zh (IV (d:=x.d) a.mF);have F:Hid (∀(T:World) (j:Nat),iD T s j p x (tA) []->JJ T->(∀w',iA (wF s j p x (tA)) T w'->iA (wF s g p x vd) w w')->jA 24 #[lA s,.agg #[aA a.kind,aA a.id,aA a.n,bA a.txt,.slice a.sb.A a.sb.n a.sb.c,.slice a.sp.A a.sp.n a.sp.c]] T (XI T j p x (tA) (NC x.d a.mF))):=Zh (fun T j h2 ai Z=>eu a h2 hg hroot hn ai ht (fun w' k=>hb w' (Z w' k)) b1 b2 b3 b4 b5 (fun w' k=>hp w' (Z w' k)) p1 p5);obtain⟨r,hr⟩:=DA (NC x.d a.mF);rw[hr] at F D E|-;have Z0:Hid (SB ((w.alloc (.cells #[aA a.kind,aA a.id,aA a.n,bA a.txt,.slice a.sb.A a.sb.n a.sb.c,.slice a.sp.A a.sp.n a.sp.c] 36)).alloc (.cells #[aA 0,oA,aA 0,aA 0] 38)) w.heap.size a):=Zh (JB (SB.new w a));have R0:Hid (RB ((w.alloc (.cells #[aA a.kind,aA a.id,aA a.n,bA a.txt,.slice a.sb.A a.sb.n a.sb.c,.slice a.sp.A a.sp.n a.sp.c] 36)).alloc (.cells #[aA 0,oA,aA 0,aA 0] 38)) (w.heap.size+1) 0 ⟨#[]⟩ 0 0):=Zh (yD FA);have U:Hid (fA w ((w.alloc (.cells #[aA a.kind,aA a.id,aA a.n,bA a.txt,.slice a.sb.A a.sb.n a.sb.c,.slice a.sp.A a.sp.n a.sp.c] 36)).alloc (.cells #[aA 0,oA,aA 0,aA 0] 38))):=Zh ((Zb _ _).alloc FA _);clear h hg hroot hn hwo ht hb b1 b2 b3 b4 b5 hp p1 p5 hr;go_enter func9,ntmps9;go_upto_region 1 with fail;obtain⟨y,a0⟩:=DA (w.heap.size+1);obtain⟨gs,G⟩:=DA w.heap.size;generalize ((w.alloc (.cells #[aA a.kind,aA a.id,aA a.n,bA a.txt,.slice a.sb.A a.sb.n a.sb.c,.slice a.sp.A a.sp.n a.sp.c] 36)).alloc (.cells #[aA 0,oA,aA 0,aA 0] 38))=W at Z0 R0 U|-;have I:Hid (w.heap.size<=y):=Zh dA;rw[a0] at R0|-;have aj:=Zh G;rw[G] at Z0|-;clear a0 G;have HW:=Zh (H.below U);have c0:=HW.c0;have a3:Hid (jA 23 #[lA p] W fun e w'=>∃g',e= .returned (lA g')/\W.heap.size<=g'/\w'.heap[g']? = some (.cells #[lA p,tA] 103 (0,0))/\fA W w'):=Zh ((JR _ W).mono (fun e w' h=>by
  obtain⟨rfl,rfl⟩:=h;exact⟨_,rfl,Zl,heap_alloc_new W _,Zb _ _⟩))
 go_wp2_with fail;refine a3.mono ?_;rintro e w1 ⟨j,rfl,ak,z,b1⟩;have l:=Zh (HW.below b1);have B1:=Zh (U.trans (b1.mono U.size));have Z1:=Zh (Z0.below b1 (JA Z0));have R1:=Zh (R0.below b1 (JA R0));have a4:Hid (w.heap.size<=j):=Zh (IA U.size);have a5:=Zh (Gd ah B1);have b:=Zh (Qp l z);have n:=Zh (Pp l a5 (lA j));have BS:Hid (iA (fun k=>k=s) w1 (w1.setCell (cA s 1) (lA j))):=Zh (mA (iA.refl _ _));have al:=JA l.zA;have c1:=l.c1;have f1:=l.fr 1;have J:=Zh (JA H.zA);clear ak z b1 a3 HW Z0 R0 U c0 a5;go_upto_region 2 with fail;generalize w1.setCell (cA s 1) (lA j)=W2 at b n BS|-;have K:Hid (SB W2 gs a):=Zh ((BS.block gs (JA Z1) (fun e=>by have:=J.out;have:=aj.out;omega)).trans Z1);have R2:Hid (RB W2 y 0 ⟨#[]⟩ 0 0):=Zh ((BS.block y (JA R1) (fun e=>by have:=J.out;have:=I.out;omega)).trans R1);have o:Hid (∀w',iA (wF s j p x (tA)) W2 w'->iA (wF s g p x vd) w w'):=Zh (fun w' hh=>by
  have k1:iA (wF s g p x vd) w W2:=(iA.oB B1 _).trans BS (fun i _ e=> .inl e);refine k1.trans hh (fun i hi e=>?_);rcases e with e|e|e|e
  ·exact .inl e
  ·exact .inr (.inl e)
  ·have:=a4.out;omega
  ·cases e)
 have CD:=Zh (F W2 j b n o);have d0:=K.c0;have d1:=K.c1;have d2:=K.c2;have d3:=K.c3;have d4:=K.c4;have d5:=K.c5;clear al c1 f1 Z1 R1 BS F l J;go_wp2_with fail;refine CD.mono ?_;rintro e m ⟨x5,L,a6,rfl,c,a7⟩;have a8:=Zh (Np b.dc b.lg c n);have a9:=Zh (b.sO c);have M:=Zh (o m (c.but.mono (fun i _ e=> .inr e)));have R5:Hid (RB m y 0 ⟨#[]⟩ 0 0):=Zh ((c.but.block y (JA R2) (fun e=>by
  rcases e with e|e
  ·have:=H.dc.lt e;have:=I.out;omega
  ·rcases e with e|e
   ·subst e;exact WA R2 b.lg.zA pA rfl
   ·cases e)).trans R2)
 have am:Hid (∀k,wF s j p x5 L k->wF s g p x vd k\/w.heap.size<=k):=Zh (fun k A=>by
  have h2:w.heap.size<=W2.heap.size:=(o W2 (iA.refl _ _)).size;rcases A with e|e|e
  ·exact .inl (.inl e)
  ·rcases c.ft k e with e|e
   ·exact .inl (.inr (.inl e))
   ·exact .inr dA
  ·rcases e with e|e
   ·exact .inr (IA a4.out)
   ·rcases c.lf k e with e|e
    ·cases e
    ·exact .inr dA)
 have N:=Zh a7;clear c a7 d0 d1 d2 d3 d4 d5 CD K R2 n b o;obtain⟨O,P,Q,rS⟩:=r;simp only at N D E|-;go_upto_region 3 with fail;have V:Hid (RB (m.alloc (.cells #[aA 0,bA P,aA Q,aA 0] 38)) m.heap.size 0 P Q 0):=Zh (RB.new m _ _ _ _);have X:Hid (fA m (m.alloc (.cells #[aA 0,bA P,aA Q,aA 0] 38))):=Zh (Zb _ _);obtain⟨gr,aa⟩:=DA m.heap.size;generalize m.alloc (.cells #[aA 0,bA P,aA Q,aA 0] 38)=W6 at V X|-;rw[aa] at V|-;have an:Hid (w.heap.size<=gr):=Zh (IA M.size);have ab:y≠gr:=(IA (JA R5));have R:=Zh (a9.below X);have ao:=Zh (YV a8 X);have Y:=Zh (R5.below X (JA R5));have ap:Hid (iA (wF s g p x vd) w W6):=Zh (M.trans (iA.oB X (fun _=>False)) (fun _ _ h=>h.elim));clear aa X a9 a8 R5 M;have ac:Hid (∀(q wf:World) (v:Value),fA W6 q->iA (fun k=>k=y\/k=gr) q wf->v= .agg #[aA O,bA P,aA Q,aA ((rS.2.length:Nat):Int)]->Jd w s g p x vd ⟨O,P,Q,rS⟩ (.returned v) wf):=Zh (fun q wf v h7 hb hv=>by
  subst hv;have ad:=Y.below h7 (JA Y);have ae:=V.below h7 (JA V);have S7:=R.below h7;have hA:vC q (fun k=>k=y\/k=gr):=fun i cc f hi S=>by
   rcases hi with rfl|rfl
   ·exact WA S ad pA rfl
   ·exact WA S ae pA rfl
  have key:∀k (t:qA) (i:Int),RB q k 0 t i 0->¬wF s j p x5 L k:=fun k t i A e=>by
   rcases e with e|e|e
   ·subst e;exact WA A S7.zA pA rfl
   ·exact S7.dc.other A pA pA pA pA pA e
   ·obtain⟨cc,t',a1,a2⟩:=S7.lg.ty e;rcases a2 with rfl|rfl<;>exact WA a1 A pA rfl
  refine⟨j,x5,L,a6,rfl,S7.but hb (fun k A e=>?_) hA,N,(ap.trans (iA.oB h7 (fun _=>False)) (fun _ _ h=>h.elim)).trans hb (fun i hi e=>?_),am⟩
  ·rcases e with rfl|rfl
   ·exact key _ _ _ ad A
   ·exact key _ _ _ ae A
  ·have:=I.out;have:=an.out;rcases e with e|e<;>omega)
 by_cases S:O=0
 ·subst S;have af:Hid (a6.length=rS.2.length):=Zh (by rw[<-N.out];simp);have CA:=Zh (ub W6 (by have:=D.2;have:=af.out;omega) R.lg);have c1:=R.c1;rw[show QA 0= .nilIface from rfl];go_wp2_with fail;refine CA.mono ?_;rintro e q ⟨A7,n7,c7,ax,rfl,B,ag,_,C⟩;obtain⟨l7,_⟩:=vG B;have aq:n7=rS.2.length:=(by have h1:=congrArg List.length ag;simp only[List.length_map] at h1;have:=af.out;omega);subst aq;obtain⟨r0,r1,r2,r3,u,hz⟩:=oH (Y.below C (JA Y));obtain⟨u0,u1,u2,u3,uf,hu⟩:=oH (V.below C (JA V));have ar:=u 0;have au:=u 1;have av:=u 2;have aw:=u 3;have ay:=uf 3;have B7:=Zh C;clear C B l7 ag CA c1;go_wp2_with fail;refine bodyPost_ret (v:=.agg #[aA 0,bA P,aA Q,aA ((rS.2.length:Nat):Int)]) (by simp[results,results9,go_sem,r0,r1,r2,r3,u0,u1,u2,u3,hz,hu,ab,ab.symm]) rfl ?_;exact ac q _ _ B7 (iA.setCell (iA.setCell (iA.setCell (iA.setCell (iA.setCell (iA.refl _ _) (fun _=> .inr rfl) _) (fun _=> .inl rfl) _) (fun _=> .inl rfl) _) (fun _=> .inl rfl) _) (fun _=> .inl rfl) _) rfl
 ·obtain⟨e1,e2,e3⟩:=E S;subst e1;subst e2;subst e3;have CN:=Zh (Wh O W6 ao);have he:QA O= .iface 29 (aA O):=(by unfold QA;rw[if_neg S]);rw[he];clear he S;go_wp2_with fail;refine CN.mono ?_;rintro e q ⟨rfl,C⟩;obtain⟨r0,r1,r2,r3,u,hz⟩:=oH (Y.below C (JA Y));have ar:=u 0;have au:=u 1;have av:=u 2;have aw:=u 3;have B7:=Zh C;clear C CN;go_wp2_with fail;refine bodyPost_ret (v:=.agg #[aA O,oA,aA 0,aA 0]) (by simp[results,results9,go_sem,r0,r1,r2,r3,hz]) rfl ?_;exact ac q _ _ B7 (iA.setCell (iA.setCell (iA.setCell (iA.setCell (iA.refl _ _) (fun _=> .inl rfl) _) (fun _=> .inl rfl) _) (fun _=> .inl rfl) _) (fun _=> .inl rfl) _) rfl
end
theorem fu(room:Int)(w:World)(h:room<1\/200<room):jA 6 #[aA room] w fun e w'=>e= .returned (.tuple #[.pointer none,QA 1])/\fA w w':=by
 have b:=qF;have a:=Zh (kj room w h);clear h;go_enter func6,ntmps6;go_wp2_with fail;refine PA a ?_;go_wp2_with fail;go_ret2;exact⟨by rw[Hd];rfl,Ze⟩
theorem Rp(R:Nat)(w:World)(h1:1<=R)(h2:R<=200):jA 6 #[aA (R:Int)] w fun e w'=>∃(s:Nat) (F:Nat->Prop),e= .returned (.tuple #[lA s,.nilIface])/\xe w' s F (ZE R) []/\fA w w'/\∀k,F k->w.heap.size<=k:=by
 have B:=AF;have m:=Zh (Yg R w h1 h2);have g:=Zh (Mo h1 h2).root;clear h1 h2;go_enter func6,ntmps6;go_wp2_with fail;refine m.mono ?_;rintro e b ⟨p,x,rfl,n,hx,o⟩;have u:=Zh n;have v:=Zh hx;have q:=Zh o;clear n hx o m;have r:=Zh (JR (some (cA p 0)) b);go_wp2_with fail;refine r.mono ?_;rintro e c ⟨rfl,d⟩;have i:Hid (fA b c):=Zh (by rw[d];exact Zb _ _);have t:Hid (c.heap[b.heap.size]? = some (.cells #[lA p,tA] 103 (0,0))):=Zh (by rw[d];exact heap_alloc_new b _);clear d r;have j:Hid (fA c (c.alloc (.cells #[lA p,lA b.heap.size] 64))):=Zh (Zb _ _);go_wp2_with fail;go_ret2;have l:=q.size;have y:=i.size;have f:=(u.below i).below j;refine⟨_,wF c.heap.size b.heap.size p x (tA),rfl,⟨b.heap.size,p,x,tA,[],⟨heap_alloc_new c _,f.dE (Nat.zero_le _),⟨(j.block _ (JA t)).trans t,Nat.zero_le _,Kind.Own.nil _ _ _,fun a z=>by cases z⟩⟩,fun _=>Iff.rfl,v,rfl,g⟩,(q.trans (i.mono l)).trans (j.mono dA),fun k A=>?_⟩;rcases A with e|e|e|e
 ·omega
 ·exact f.ge e
 ·omega
 ·cases e
section
variable{w w':World}{s g p:Nat}{x:Dx}{vd:Value}{rs:List RR}
theorem Sp(h:iD w s g p x vd rs)(hw:WF x.d):jA 11 #[lA s] w (Cc w x):=by
 have a:=Zh (oh w hw h.dc);have k:=h.c0;clear h hw;go_enter func11,ntmps11;go_wp2_with fail;refine a.mono ?_;rintro e w' ⟨d,f,rfl,c,hx,b⟩;have i:=Zh c;have j:=Zh hx;have B:=Zh b;clear c hx b a;go_wp2_with fail;go_ret;exact⟨d,f,rfl,i,j,B⟩
theorem Zk(h:iD w s g p x vd rs)(hl:rs.length<=1000000):jA 14 #[lA s] w (Ud w rs):=by
 have d:=Zh (ub w hl h.lg);have o:=h.c1;clear h hl;go_enter func14,ntmps14;go_wp2_with fail;refine d.mono ?_;rintro e w' ⟨A,n,c,a,rfl,f,i,j,b⟩;have k:=Zh f;have l:=Zh i;have m:=Zh j;have B:=Zh b;clear f i j b d;go_wp2_with fail;go_ret;exact⟨A,n,c,a,rfl,k,l,m,B⟩
end
theorem qy:oI JJ xe where
 wo:=Gd
 lt:=fun⟨g,p,x,o,q,h,j,_⟩ t=>h.lt ((j _).1 t)
 QE:=fun⟨g,p,x,o,q,h,j,_⟩ k c f t=>h.QE k c f ((j _).1 t)
 VB:=fun⟨g,p,x,o,q,h,j,D⟩ E hT hA=>⟨g,p,x,o,q,h.but E (fun k t=>hT k ((j k).2 t)) hA,j,D⟩
 WN:=fu
 gV:=Rp
 step:=by
  intro w s F d l y A n c N O P G z u K Q E R S T U V W X p2 p3 p4 Y;obtain⟨g,p,x,o,q,h,j,rfl,rfl,a⟩:=z;have v:∀w',iA (wF s g p x o) w w'->iA F w w':=fun w' k=>k.mono (fun i _ Z=>(j i).2 Z)
  refine(ng ⟨y.kind,y.id,y.n,y.txt,⟨A,n,c⟩,y.bytes,⟨N,O,P⟩,y.places⟩ h u a K G Q (fun w' k=>E w' (v w' k)) R S T U V (fun w' k=>W w' (v w' k)) X Y).mono ?_;rintro e w' ⟨L,H,B,m,rfl,h',M,C,I⟩;have e1:H.d=(NC x.d y).s.1:=congrArg Prod.fst M;have e2:m.map (·.r)=(NC x.d y).s.2:=congrArg Prod.snd M;refine⟨wF s L p H B,rfl,⟨L,p,H,B,m,h',fun _=>Iff.rfl,e1,e2,?_⟩,v w' C,fun k t=>(I k t).imp (fun e=>(j k).2 e) id⟩;have tg:=Yu u.1 y;have J:WF (NC x.d y).s.1:=iw u.1 y;rw[(tg.tag 1 (u.1.pos u.1.root).2 J.root).2.1];exact a
 doc:=by
  intro w s F d l z u K;obtain⟨g,p,x,o,q,h,j,rfl,rfl,a⟩:=z;exact Sp h u.1
 last:=by
  intro w s F d l z hl;obtain⟨g,p,x,o,q,h,j,rfl,rfl,a⟩:=z;refine(Zk h (by simpa using (by omega:(q.map (·.r)).length<=1000000))).mono ?_;rintro e w' ⟨A,n,c,m,rfl,h1,h2,D,b⟩;exact⟨A,n,c,m,rfl,h1,h2,D,b⟩
end P21
end Go.Proofs.YtimfajmknmlajaaGreatDoor
