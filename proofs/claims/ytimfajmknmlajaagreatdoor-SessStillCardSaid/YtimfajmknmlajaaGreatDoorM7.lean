/- A part of the proof. No condition. -/
import Derived.Test.YtimfajmknmlajaaGreatDoorM1
import Derived.Test.YtimfajmknmlajaaGreatDoorM3
import Derived.Test.YtimfajmknmlajaaGreatDoorM5
set_option linter.unusedVariables false
set_option linter.unusedSimpArgs false
set_option maxRecDepth 100000
set_option maxHeartbeats 40000000
namespace Go.Proofs.YtimfajmknmlajaaGreatDoor
open Tryz
namespace P5
open Go.RowKit Kd P4
variable{B q:Nat}
variable{B q:Nat}
variable{B q:Nat}
section
variable{w w' w2:World}
theorem lB.je{g:Nat}{nd:Nd}{A:vA}{n c:Nat}{A2:vA}{n2 k2:Nat}{S:Nat->Prop}(h:lB w g nd A n c A2 n2 k2)(hb:iA S w w')(hS:¬S g):lB w' g nd A n c A2 n2 k2:=(hb.block g h.lt hS).trans h
end
variable{B q:Nat}
variable{B q:Nat}
end P5
namespace P6
open Go.RowKit Kd P4 P5
variable{B p:Nat}{x:Dx}
def Ou(w:World)(e:Ending)(w':World):Prop:=e= .returned (.tuple #[.agg oE,.bool false])/\fA w w'
theorem rU(y:Int){k:Nat}{nd:Nd}(w:World)(hk:k<x.rs.length)(hy:x.rs[k].nd.id=y)(hn:x.rs[k].nd=nd)(hal:nd.attrs.length<=1000)(hkl:nd.kids.length<=1000)(h:Dc w B p x):jA 136 #[lA p,aA y] w (QP w nd):=by
 have H:=Zh h;have o:=Zh hy;have q:=Zh hn;clear h hy hn;go_enter func136,ntmps136;go_wp2_with fail;refine(VL y _ hk o q hal hkl (H.alloc _)).mono ?_;rintro e b ⟨A,n,c,r,s,t,rfl,l,m,d⟩;have u:=Zh (((Below.refl _ w).alloc Zl (.cells oE 53)).trans (d.mono FA));have a:Hid (b.heap[w.heap.size]? = some (.cells oE 53 (0,0))):=Zh ((d.block _ FA).trans (heap_alloc_new w _));have f:=Zh l;have g:=Zh m;have j:w.heap.size<b.heap.size:=JA a;have z:=iB 0 a;have C:=iB 1 a;have E:=iB 2 a;have F:=iB 3 a;have G:=iB 4 a;have I:=iB 5 a;have J:=iB 6 a;have K:=iB 7 a;have M:∀i,b.frozen? ⟨w.heap.size,i,none⟩=false:=fun i=>by have L:=a.out;simp[World.frozen?,L]
 clear l m d;go_wp2_with fail;refine bodyPost_ret (v:=.tuple #[.agg (bB nd A n c r s t),.bool true]) (by simp[results,results136,go_sem,z,C,E,F,G,I,J,K,j]) rfl ?_;refine Y4 u (D:=(w.alloc (.cells oE 53)).heap.size) FA f g ⟨_,a⟩ ?_;exact mA (mA (mA (mA (mA (mA (mA (mA (iA.refl _ _))))))))
theorem m8(y:Int)(w:World)(hy:nA x.l y=false)(h:Dc w B p x):jA 136 #[lA p,aA y] w (Ou w):=by
 have H:=Zh h;have f:=Zh hy;clear h hy;go_enter func136,ntmps136;go_wp2_with fail;refine(eV y _ f (H.alloc _)).mono ?_;rintro e b ⟨rfl,c⟩;have g:=Zh (((Below.refl _ w).alloc Zl (.cells oE 53)).trans (c.mono FA));have a:Hid (b.heap[w.heap.size]? = some (.cells oE 53 (0,0))):=Zh ((c.block _ FA).trans (heap_alloc_new w _));have d:w.heap.size<b.heap.size:=JA a;have j:=iB 0 a;have k:=iB 1 a;have l:=iB 2 a;have m:=iB 3 a;have n:=iB 4 a;have o:=iB 5 a;have q:=iB 6 a;have r:=iB 7 a;have t:∀i,b.frozen? ⟨w.heap.size,i,none⟩=false:=fun i=>by have s:=a.out;simp[World.frozen?,s]
 clear c;go_wp2_with fail;refine bodyPost_ret (v:=.tuple #[.agg oE,.bool false]) (by simp[results,results136,go_sem,j,k,l,m,n,o,q,r,d]) rfl ⟨rfl,rF g ?_⟩;exact mA (mA (mA (mA (mA (mA (mA (mA (iA.refl _ _))))))))
theorem p8(l:List Int)(t:Int)(A:vA)(n c:Nat)(w:World)(hn:l.length=n)(hn2:n<=1000000)(ht:t∉l)(H:kI.AA w w.heap.size A l):
 jA 133 #[.slice A n c,aA t] w fun e w'=>e= .returned (aA (-1))/\w=w':=by
 have d:=Zh H;have f:=Zh hn;have g:=Zh ht;clear H hn ht;go_enter func133,ntmps133;go_wp2_with fail;go_loop [8] (fun i=>∃k:Nat,k<=n/\i = aA k) (fun i=>n-(intOf i).toNat)
 case atStart=>exact⟨0,by omega,rfl⟩
 case round=>
  obtain⟨k,m,rfl⟩:=hrel;by_cases j:k<n
  ·have a:k<l.length:=(IA f.out);obtain⟨b,o,rfl,p,q⟩:=yE d a;have r:(t==l[k])=false:=beq_eq_false_iff_ne.2 (fun e=>g (e▸List.getElem_mem a));go_wp2;go_round
   case rel=>exact⟨k+1,by omega,by go_num⟩
   case measure=>simp[intOf];omega
  ·go_wp2;go_ret;exact⟨rfl,rfl⟩
theorem lX(l:List Int)(t:Int)(A:vA)(n c:Nat)(w:World)(hn:l.length=n)(hn2:n<=1000000)(H:kI.AA w w.heap.size A l):
 jA 170 #[.slice A n c,aA t] w fun e w'=>e= .returned (.bool (decide (t∈l)))/\w=w':=by
 have f:=Zh H;have g:=Zh hn;clear H hn;by_cases a:t∈l
 ·have b:=Zh a;have d:=Zh (decide_eq_true a);clear a;go_enter func170,ntmps170;go_wp2_with fail;refine PA (WM l t A n c w g hn2 b f) ?_;go_wp2_with fail;go_ret;exact⟨WC d.symm,rfl⟩
 ·have b:=Zh a;have d:=Zh (decide_eq_false a);clear a;go_enter func170,ntmps170;go_wp2_with fail;refine PA (p8 l t A n c w g hn2 b f) ?_;go_wp2_with fail;go_ret;exact⟨WC d.symm,rfl⟩
structure VS(w:World)(C g:Nat)(l:List Nd)(cur:Int):Prop where
 ge:C<=g
 at_:∃nd A n c A2 n2 c2,lB w g nd A n c A2 n2 c2/\kI.Own w C (.slice A2 n2 c2) nd.kids/\(nA l cur=true->nd.id=cur/\nd.par=EA l cur/\nd.kids=xA l cur)
theorem jV(hwf:WF x.d){w:World}(h:Dc w B p x){k:Nat}(hk:k<x.rs.length){i:Int}(hy:x.rs[k].nd.id=i):x.rs[k].nd.id=i/\x.rs[k].nd.par=EA x.l i/\x.rs[k].nd.kids=xA x.l i/\x.rs[k].nd.attrs.length<=1000/\x.rs[k].nd.kids.length<=1000:=by
 have a:=sF h hk hy;have b:=mP h hwf hk;exact⟨hy,a.2.1.symm,a.2.2.symm,b.1,b.2.1⟩
def LM:Nd:=⟨0,0,⟨#[]⟩,⟨#[]⟩,⟨#[]⟩,[],[],0⟩
def Cw(w:World)(x:Dx)(i:Int)(N:Nat)(s5 s6 s7:Value)(wr:World):Prop:=∃(g j:Nat) (ok:Bool) (acc:List Int),s6 = lA g/\s7= .bool ok/\acc.length=j/\j<=N+1/\Hid (ok=nA x.l (it (EA x.l) j i))/\Hid (VS wr w.heap.size g x.l (it (EA x.l) j i))/\Hid (kI.Own wr w.heap.size s5 acc)/\Hid (dH x.l i=acc++up (nA x.l) (EA x.l) (N+1-j) (it (EA x.l) j i))/\Hid (0<j->nA x.l i=true)/\Hid (fA w wr)
theorem Cs(i:Int)(w:World)(hwf:WF x.d)(h:Dc w B p x):jA 268 #[lA p,aA i] w (Ua w (dH x.l i)):=by
 have H:=Zh h;have a5:=Zh hwf;obtain⟨N,hN⟩:=DA x.rs.length;have a6:Hid (dH x.l i=up (nA x.l) (EA x.l) (N+1) i):=Zh (by unfold dH;rw[dG,hN]);have ag:N<=1000:=(by have:=hwf.VJ;rw[show x.d.l=x.l from rfl,dG] at this;omega);have a7:Hid (∀j,nA x.l (it (EA x.l) j i)=true->nA x.l i=true->j<=N):=Zh (fun j hj Z=>by
  obtain⟨k,J⟩:=hwf.tr.dep i;have a8:=hwf.tr.XR (L:=MA x.l) (fun y hy=>zE.1 hy) Z J;have ah:k<=N:=(by rw[<-hN];simpa[MA,Dx.l] using a8);rcases Nat.lt_or_ge j k with e|e
  ·omega
  ·have h0:=hwf.tr.IP J.1 e;rw[show EA x.d.l=EA x.l from rfl] at h0;rw[h0] at hj;have:=hwf.Vx;rw[show nA x.d.l 0=nA x.l 0 from rfl,hj] at this;cases this)
 clear h hwf hN;have R:Hid (∀(W:World) (y:Int),fA w W->jA 136 #[lA p,aA y] W fun e w'=>∃(a:Nd) (A:vA) (n c:Nat) (t:vA) (u z:Nat) (X:Bool),e= .returned (.tuple #[.agg (bB a A n c t u z),.bool X])/\X=nA x.l y/\kI.Own w' W.heap.size (.slice t u z) a.kids/\(nA x.l y=true->a.id=y/\a.par=EA x.l y/\a.kids=xA x.l y)/\fA W w'):=Zh (fun W y hb=>by
  have HX:=H.below hb;cases hy:nA x.l y with
  |true=>
   obtain⟨k,J,e,_⟩:=HX.place hy;obtain⟨q1,q2,q3,q4,q5⟩:=jV a5 HX J e;refine(rU y W J e rfl q4 q5 HX).mono ?_;rintro e w' ⟨A,n,c,t,u,z,rfl,_,o,b⟩;exact⟨_,A,n,c,t,u,z,true,rfl,rfl,o,fun _=>⟨q1,q2,q3⟩,b⟩
  |false=>
   refine(m8 y W hy HX).mono ?_;rintro e w' ⟨rfl,b⟩;exact⟨LM,none,0,0,none,0,0,false,rfl,rfl,Kind.Own.nil _ _ _,fun h=>(by cases h),b⟩)
 go_enter func268,ntmps268;go_wp2_with fail;refine(R w i Ze).mono ?_;rintro e w1 ⟨a,A,n,c,t,u,z,X,rfl,a0,o1,K,b1⟩;have BX:Hid (VS (w1.alloc (.cells (bB a A n c t u z) 53)) w.heap.size w1.heap.size x.l i):=Zh ⟨b1.size,a,A,n,c,t,u,z,lB.new _ _ _ _ _ _ _ _,o1.alloc _,K⟩;have B1:Hid (fA w (w1.alloc (.cells (bB a A n c t u z) 53))):=Zh (b1.alloc b1.size _);have a9:=Zh a0;clear o1 K b1 a0
 go_upto_block 0 with fail
 generalize w1.alloc (.cells (bB a A n c t u z) 53)=W1 at BX B1|-;generalize w1.heap.size=g1 at BX|-;go_wp2_with fail;go_loopw [5,6,7] (fun s5 s6 s7 wr=>Cw w x i N s5 s6 s7 wr) (fun s5 _ _ _=>match s5 with| .slice _ n _=>N+1-n|_=>0)
 case atStart=>exact⟨g1,0,X,[],rfl,rfl,rfl,by omega,a9,BX,Zh (Kind.Own.nil _ _ _),Zh (by rw[a6.out];rfl),Zh (fun h=>absurd h dA),B1⟩
 case round=>
  obtain⟨g,j,X,E,rfl,rfl,T,hj,s,a1,HO,HU,H0,HB⟩:=hrel;have D:=Zh T;clear T;obtain⟨A5,r,c5,rfl,h5,_⟩:=HO.slice;obtain rfl:r=j:=by rw[<-h5];exact D
  clear h5;cases X with
  |false=>
   have HE:Hid (dH x.l i=E):=Zh (by rw[HU.out,lr s.out.symm,List.append_nil]);go_wp2_with fail;go_ret;rw[HE.out];exact⟨_,_,_,rfl,HO,HB⟩
  |true=>
   have Z:nA x.l i=true:=by
    by_cases e:0<r
    ·exact H0 e
    ·obtain rfl:r=0:=dA
     exact s.symm
   have ai:=a7 r s.symm Z;have HI:=Zh Z;have aa:Hid (dH x.l i=(E++[it (EA x.l) r i])++up (nA x.l) (EA x.l) (N+1-(r+1)) (it (EA x.l) (r+1) i)):=Zh (by
    rw[HU.out,show N+1-r=(N+1-(r+1))+1 by omega,kr s.out.symm,OF];simp)
   obtain⟨a,A,n,c,t,u,z,nb,o2,K⟩:=a1.at_;obtain⟨q1,q2,q3⟩:=K s.symm;have aj:=Zh a1.ge;have NB:=Zh nb;have ak:=Zh o2;have Q1:=Zh q1;have Q2:Hid (a.par=it (EA x.l) (r+1) i):=Zh (by rw[OF];exact q2);have z0:=nb.c0;have ab:=HB.size;clear Z nb o2 K q1 q2 q3;go_upto_region 6 with(at_builtin;refine kI.QF rfl _ _ rfl (v:=.slice A5 r c5) (l:=E) (m:=[a.id]) (B:=w.heap.size) rfl (HO.alloc _) rfl rfl KF (Kind.AA.lit (heap_alloc_new _ _) rfl) (by have:=D.out;simp;omega) jB ?_;intro v' w3 M C ac;obtain⟨A6,n6,c6,rfl,h6,_,_,_,_⟩:=M.slice);have a2:Hid (kI.Own w3 w.heap.size (.slice A6 n6 c6) (E++[it (EA x.l) r i])):=Zh (by rw[<-Q1.out];exact M);have ad:Hid (n6=r+1):=Zh (by rw[<-h6,List.length_append,D.out];rfl);have a3:iA (fun k=>(Value.slice A5 r c5).ownBlock=some k) wr w3:=((iA.refl _ wr).alloc _).trans (iA.WG (S:=fun k=>(Value.slice A5 r c5).ownBlock=some k) C (fun g hg _=>hg)) (fun _ _ h=>h);have O:Hid (fA w w3):=Zh ((HB.alloc ab _).grown C jB (fun k J=>(HO.lt J).1));have P:Hid (lB w3 g a A n c t u z):=Zh (NB.je a3 (fun e=>by obtain⟨d,hd⟩:=HO.ty e;exact WA hd NB pA rfl));clear M C ac a3 h6 z0;have z0:=P.c0;have z1:=P.c1;have z2:=P.c2;have z3:=P.c3;have z4:=P.c4;have z5:=P.c5;have z6:=P.c6;have z7:=P.c7;have Y:Hid (lB (w3.alloc (.cells (bB a A n c t u z) 53)) w3.heap.size a A n c t u z):=Zh (lB.new _ _ _ _ _ _ _ _);have B4:Hid (fA w (w3.alloc (.cells (bB a A n c t u z) 53))):=Zh (O.alloc O.size _);have O4:=Zh (a2.alloc (.cells (bB a A n c t u z) 53));have G4:=Zh O.size;go_upto_region 4 with fail;generalize w3.alloc (.cells (bB a A n c t u z) 53)=w4 at Y B4 O4|-;generalize w3.heap.size=f at Y G4|-;clear z0 z1 z2 z3 z4 z5 z6 z7 P O a2;have y1:=Y.c1;go_wp2_with fail;refine(R w4 a.par B4).mono ?_;rintro e w5 ⟨nd',A',n',c',F,G,I,ae,rfl,U,o5,V,b5⟩;have q:=Zh (Y.below b5 Y.lt);have B5:=Zh (B4.trans (b5.mono B4.size));have O5:=Zh (O4.below b5 Zl);have a4:=Zh U;have af:=Zh V;have K5:=Zh o5;have al:f<w4.heap.size:=Y.lt;clear U V o5 b5 y1;have u0:=q.c0;have f0:=q.frozen 0;have u1:=q.c1;have f1:=q.frozen 1;have u2:=q.c2;have f2:=q.frozen 2;have u3:=q.c3;have f3:=q.frozen 3;have u4:=q.c4;have f4:=q.frozen 4;have u5:=q.c5;have f5:=q.frozen 5;have u6:=q.c6;have f6:=q.frozen 6;have u7:=q.c7;have f7:=q.frozen 7;have N6:Hid (lB ((((((((w5.setCell (cA f 0) (aA nd'.id)).setCell (cA f 1) (aA nd'.par)).setCell (cA f 2) (bA nd'.tag)).setCell (cA f 3) (bA nd'.txt)).setCell (cA f 4) (bA nd'.key)).setCell (cA f 5) (.slice A' n' c')).setCell (cA f 6) (.slice F G I)).setCell (cA f 7) (aA nd'.note)) f nd' A' n' c' F G I):=Zh (q.Rd (nd':=nd'));have Q:Hid (iA (fun k=>k=f) w5 ((((((((w5.setCell (cA f 0) (aA nd'.id)).setCell (cA f 1) (aA nd'.par)).setCell (cA f 2) (bA nd'.tag)).setCell (cA f 3) (bA nd'.txt)).setCell (cA f 4) (bA nd'.key)).setCell (cA f 5) (.slice A' n' c')).setCell (cA f 6) (.slice F G I)).setCell (cA f 7) (aA nd'.note))):=Zh (mA (mA (mA (mA (mA (mA (mA (mA (iA.refl _ _)))))))))
   go_upto_block 0 with fail
   generalize ((((((((w5.setCell (cA f 0) (aA nd'.id)).setCell (cA f 1) (aA nd'.par)).setCell (cA f 2) (bA nd'.tag)).setCell (cA f 3) (bA nd'.txt)).setCell (cA f 4) (bA nd'.key)).setCell (cA f 5) (.slice A' n' c')).setCell (cA f 6) (.slice F G I)).setCell (cA f 7) (aA nd'.note))=w6 at N6 Q|-;have B6:Hid (fA w w6):=Zh (B5.trans (Q.eD (fun k _ e=>by have:=G4.out;omega) B5.size));have O6:Hid (kI.Own w6 w.heap.size (.slice A6 n6 c6) (E++[it (EA x.l) r i])):=Zh (O5.but Q (fun k J e=>by obtain⟨d,hd⟩:=O5.ty J;exact WA hd (e▸q.out) pA rfl));have K6:Hid (kI.Own w6 w.heap.size (.slice F G I) nd'.kids):=Zh ((K5.but Q (fun k J e=>by obtain⟨d,hd⟩:=K5.ty J;exact WA hd (e▸q.out) pA rfl)).dE B4.size);clear u0 u1 u2 u3 u4 u5 u6 u7 f0 f1 f2 f3 f4 f5 f6 f7;go_wp2_with fail;go_roundw
   case rel=>exact⟨f,r+1,ae,E++[it (EA x.l) r i],rfl,rfl,by rw[List.length_append,D.out];rfl,by omega,Zh (by rw[<-Q2.out];exact a4),Zh ⟨G4,nd',A',n',c',F,G,I,N6,K6,by rw[<-Q2.out];exact af⟩,O6,aa,Zh (fun _=>HI),B6⟩
   case measure=>rw[ad.out];omega
theorem Qf(a b:Int)(w:World)(hwf:WF x.d)(h:Dc w B p x):jA 256 #[lA p,aA a,aA b] w fun e w'=>e= .returned (.bool (inside x.l a b))/\fA w w':=by
 have H:=Zh h;have d:=Zh hwf;have g:(dH x.l a).length<=1000000:=by
  have q:∀(f:Nat) (i:Int),(up (nA x.l) (EA x.l) f i).length<=f:=by
   intro f
   induction f with
   |zero=>intro i;simp[up]
   |succ f ih=>intro i;rw[up];split<;>simp;exact ih _
  have y:=q (x.l.length+1) a;have r:=hwf.VJ;rw[show x.d.l=x.l from rfl] at r;unfold dH;omega
 have s:=Zh g;clear h hwf g;go_enter func256,ntmps256;go_wp2_with fail;refine(Cs a w d H).mono ?_;rintro e t ⟨A,n,c,rfl,j,k⟩;obtain⟨l,_,_,_,m⟩:=UE j rfl;have u:=Zh k;have o:=Zh l;have v:=Zh m;clear j k l m;go_wp2_with fail;refine(lX (dH x.l a) b A n c t o (by rw[<-o.out];exact s) v).mono ?_;rintro e w' ⟨rfl,rfl⟩;go_wp2_with fail;go_ret;exact⟨rfl,u⟩
end P6
end Go.Proofs.YtimfajmknmlajaaGreatDoor
