/- A part of the proof. No condition. -/
import Derived.BigQuiet
import Derived.Deep.RegionHeld3
import Derived.Deep.DeepCutAuto
import Derived.Test.YtimfajmknmlajaaGreatDoorM1
import Derived.Test.YtimfajmknmlajaaGreatDoorM3
import Derived.Test.YtimfajmknmlajaaGreatDoorM13
import Derived.Test.YtimfajmknmlajaaGreatDoorM17
import Derived.Test.YtimfajmknmlajaaGreatDoorM18
import Derived.Test.YtimfajmknmlajaaGreatDoorM20
import Derived.Test.YtimfajmknmlajaaGreatDoorM21
set_option linter.unusedVariables false
set_option linter.unusedSimpArgs false
set_option maxRecDepth 100000
set_option maxHeartbeats 40000000
namespace Go.Proofs.YtimfajmknmlajaaGreatDoor
open Go.Proofs.Tryz
namespace P21
open Go.RowKit Kd P4 P5 P7 P8 P10 P16 P19 P20
theorem Fs(t:PT):countP t<=wP t:=by
 induction t using PT.ind with
 |h tag txt key attrs kids ih=>
  rw[countP,wP];have:∀l:List PT,(∀k∈l,countP k<=wP k)->cB l<=wL l:=by
   intro l
   induction l with
   |nil=>intro _;simp[cB]
   |cons a l ihl=>intro h;have c:=h a FA;have d:=ihl (fun k b=>h k (by simp[b]));rw[cB,wL];omega
  have:=this kids ih;omega
theorem FU:∀l:List PT,cB l<=wL l
 |[]=>by simp[cB]
 |a:: l=>by have h1:=Fs a;have h2:=FU l;rw[cB,wL];omega
theorem y8{l:uA}(h:P1.JC l=true):l.length<=60:=P12.MJ (P1.ug h)
theorem Gh{l:List P3.At}(h:P3.kC l=true):P3.dK l=true:=by
 obtain⟨f,d,_⟩:=P3.AI.1 h;unfold P3.dK;rw[Bool.and_eq_true,List.all_eq_true];refine⟨by simp;omega,fun a e=>?_⟩;obtain⟨b,c⟩:=d a e;have b:=y8 b;have c:=P12.MJ c;unfold P3.eM;simp only[Array.length_toList,ByteArray.size_data] at b c;simp;omega
theorem C8(t:PT):iC t=true->JG t=true:=by
 induction t using PT.ind with
 |h tag txt key attrs kids ih=>
  intro h;rw[iC] at h;have f:∀l:List PT,(∀k∈l,iC k=true->JG k=true)->gD l=true->aL l=true:=by
   intro l a b;rw[UO,List.all_eq_true];rw[DK,List.all_eq_true] at b;exact fun k e=>a k e (b k e)
  rw[JG];split at h
  ·rename_i he;simp only[Bool.and_eq_true,List.isEmpty_iff] at h;obtain⟨⟨⟨a,b⟩,d⟩,c⟩:=h;have a:=P12.MJ a;subst d;subst c;have j:tag.size=0:=(by rw[<-EG];rw[ByteArray.toList_eq,List.isEmpty_iff] at he;rw[he];rfl);have g:key.size=0:=(by rw[<-EG];rw[ByteArray.toList_eq] at b;rw[b];rfl);rw[EG] at a;simp[P3.dK,aL];omega
  ·simp only[Bool.and_eq_true,List.isEmpty_iff] at h;obtain⟨⟨⟨⟨⟨a,b⟩,d⟩,c⟩,_⟩,i⟩:=h;have a:=y8 a;have b:=P12.MJ b;have g:txt.size=0:=(by rw[<-EG];rw[ByteArray.toList_eq] at c;rw[c];rfl);rw[EG] at a b;rw[Gh d,f kids ih i];simp;omega
theorem zo{s:uA}(h:(JD s).2=0):gD (JD s).1=true:=by
 unfold JD at h|-;split
 ·rename_i h0;rw[if_pos h0] at h;cases h
 ·rename_i h0;rw[if_neg h0] at h;split
  ·rename_i h1;simp only[Bool.and_eq_true] at h1;exact h1.1.1.1
  ·rename_i h1;rw[if_neg h1] at h;cases h
theorem Ao(s:uA):wL (JD s).1<=12000:=by
 unfold JD;split
 ·show wL []<=_;simp[wL]
 ·split
  ·show wL (KI s).1<=_;have:=Cr s;omega
  ·show wL []<=_;simp[wL]
def uW(s:Sg)(t:PT):Sg:=((qB s.1 1 0 t).d,s.2++(qB s.1 1 0 t).done)
theorem xY:∀(l:List PT) (t:PT) (s:Sg),YE (l++[t]) s=uW (YE l s) t
 |[],_,_=>rfl
 |a:: l,t,s=>xY l t _
theorem Ab{x:Int}(h1:-9223372036854775808<=x)(h2:x<=9223372036854775807):IntKind.i64.wrap x=x:=by
 simp[IntKind.wrap,IntKind.bits,IntKind.signed];omega
end P21
namespace P21
open Go.RowKit Kd P4 P5 P6 P7 P8 P10 P16 P19 P20
structure iD(w:World)(s g p:Nat)(x:Dx)(vd:Value)(rs:List RR):Prop where
 zA:w.heap[s]? = some (.cells #[lA p,lA g] 64 (0,0))
 dc:Dc w 0 p x
 lg:Lg w 0 g p vd rs
def wF(s g p:Nat)(x:Dx)(vd:Value)(k:Nat):Prop:=k=s\/fC p x k\/eG g vd k
section
variable{w w':World}{s g p:Nat}{x x':Dx}{vd vd':Value}{rs rs':List RR}
theorem iD.c0(h:iD w s g p x vd rs):w.cell? (cA s 0)=some (lA p):=cell_of_row w s 0 _ _ (0,0) h.zA
theorem iD.c1(h:iD w s g p x vd rs):w.cell? (cA s 1)=some (lA g):=cell_of_row w s 1 _ _ (0,0) h.zA
theorem iD.lt(h:iD w s g p x vd rs){k:Nat}(hk:wF s g p x vd k):k<w.heap.size:=by
 rcases hk with rfl|hk|hk
 ·exact JA h.zA
 ·exact h.dc.lt hk
 ·exact h.lg.lt hk
theorem iD.ap(h:iD w s g p x vd rs):¬(fC p x s\/eG g vd s):=fun e=>by
 rcases e with e|e
 ·exact h.dc.other h.zA pA pA pA pA pA e
 ·obtain⟨c,d,a,b⟩:=h.lg.ty e;rcases b with rfl|rfl<;>exact WA a h.zA pA rfl
theorem iD.QE(h:iD w s g p x vd rs):vC w (wF s g p x vd):=fun k c f a b=>by
 rcases a with rfl|a
 ·exact WA b h.zA pA rfl
 ·exact dS h.dc h.lg k c f a b
theorem iD.but{T:Nat->Prop}(h:iD w s g p x vd rs)(hb:iA T w w')(hT:∀k,wF s g p x vd k->¬T k)(hA:vC w T):iD w' s g p x vd rs:=
 ⟨(hb.block s (JA h.zA) (hT s (.inl rfl))).trans h.zA,h.dc.but hb (fun k a=>hT k (.inr (.inl a))) hA,h.lg.but hb (fun k a=>hT k (.inr (.inr a))) hA⟩
theorem iD.below(h:iD w s g p x vd rs)(hb:fA w w'):iD w' s g p x vd rs:=h.but (iA.oB hb (fun _=>False)) (fun _ _ h=>h) (vC.none w)
theorem iD.sO(h:iD w s g p x vd rs)(k:wB w 0 g p x vd x' vd' rs' w'):iD w' s g p x' vd' rs':=
 ⟨(k.but.block s (JA h.zA) h.ap).trans h.zA,k.dc,k.lg⟩
end
theorem Hh(ts:List TV)(A:vA)(n c:Nat)(w:World)(ho:kT.Own w 0 (.slice A n c) ts)(ht:∀t∈ts,DJ w t)(hw:wL (yA ts)<=12000):
 jA 80 #[.slice A n c] w fun e w'=>e= .returned (aA (cB (yA ts):Nat))/\fA w w':=by
 have I:=Zh ho;have J:=Zh ht;have f:=Zh (NN ho).1;have K:n<=12000:=(by have B:=YN (yA ts);rw[nC,List.length_map] at B;have:=f.out;rw[nC] at hw;omega);have q:Hid (∀k,cB ((yA ts).take k)<=12000):=Zh (fun k=>by have B:=VM (yA ts) k;have R:=FU (yA ts);omega);clear ho ht hw;go_enter func80,ntmps80;go_wp2_with fail;go_loopw [3,8] (fun L u wr=>∃k:Nat,k<=n/\u = aA k/\L = aA (cB ((yA ts).take k):Nat)/\Hid (fA w wr)) (fun _ u _=>n-(intOf u).toNat)
 case atStart=>exact⟨0,Nat.zero_le _,rfl,by simp[cB],Zh Ze⟩
 case round=>
  obtain⟨k,S,rfl,rfl,l⟩:=hrel;by_cases M:k<n
  ·have g:k<ts.length:=(IA f.out);have v:k<(yA ts).length:=(by rw[nC];simpa using g);have r:(yA ts)[k]=er ts[k]:=(by simp[nC]);have a:=PM v;rw[r] at a;have x:=q (k+1);obtain⟨b,o,rfl,T,C,D,E,F,G⟩:=qK (NN (I.below l Zl)).2.2.2.2 g;have y:Hid (∀m,fA wr m->jA 123 #[.agg #[bA ts[k].tag,bA ts[k].txt,bA ts[k].key,.slice ts[k].sa.A ts[k].sa.n ts[k].sa.c,.slice ts[k].sk.A ts[k].sk.n ts[k].sk.c]] m fun e w'=>e= .returned (aA (countP (er ts[k]):Nat))/\fA m w'):=Zh (fun m N=>eo ts[k] m ((J _ (List.getElem_mem g)).later (l.trans (N.mono l.size))).ok dA);obtain⟨cn,i⟩:=DA (cB ((yA ts).take k));obtain⟨ck,j⟩:=DA (countP (er ts[k]));rw[j] at y;rw[i];rw[i,j] at a;have z:=Zh a;have O:cn+ck<=12000:=dA;clear i j a r x;generalize ts[k]=d at C D E F G y;go_upto_region 5 with fail;have p:=Zh (TB.new wr d);have s:Hid (fA wr (wr.alloc (.cells #[bA d.tag,bA d.txt,bA d.key,.slice d.sa.A d.sa.n d.sa.c,.slice d.sk.A d.sk.n d.sk.c] 81))):=Zh (Zb _ _);generalize wr.alloc (.cells #[bA d.tag,bA d.txt,bA d.key,.slice d.sa.A d.sa.n d.sa.c,.slice d.sk.A d.sk.n d.sk.c] 81)=P at p s|-;clear C D E F G;have U:=p.c0;have V:=p.c1;have W:=p.c2;have X:=p.c3;have Y:=p.c4;go_wp2_with fail;refine(y P s).mono ?_;rintro e Z ⟨rfl,H⟩;have Q:=Zh (l.trans ((s.trans (H.mono s.size)).mono l.size));clear H;go_wp2_with fail;go_roundw
   case rel=>exact⟨k+1,by omega,by go_num,by rw[z.out];go_num,Q⟩
   case measure=>simp[intOf];omega
  ·obtain rfl:k=n:=dA
   go_wp2_with fail;go_ret;refine⟨?_,l⟩;rw[List.take_of_length_le (by have:=f.out;rw[nC,List.length_map];omega)];rfl
section
variable{w w':World}{s g p:Nat}{x x':Dx}{vd vd':Value}{rs rs':List RR}
theorem Bo{m nb:Nat}(h:iD w s g p x vd rs)(hw:WF x.d)(hm:x.rs.length=m)(hb:(below x.l 1).length=nb):
 jA 81 #[lA s] w fun e w'=>e= .returned (aA ((x.R:Int)-m+((nb:Int)-1)))/\fA w w':=by
 have H:=Zh h;have G:=Zh hm;have n:nb<=m:=by
  have j:=P5.eI (below x.l 1) (MA x.l) (hw.tr.vL _ 1 hw.root) (fun z o=>zE.1 (hw.tr.ZJ _ 1 z hw.root o));rw[hb] at j;simp only[MA,List.length_map,dG] at j;omega
 have k:=hw.room;have q:m<=x.R:=(by have:=hw.len;rw[show x.d.l=x.l from rfl,dG] at this;rw[<-hm];exact this);have c:x.R<=200:=k;have r:=h.c0;have d:=Zh (yo 1 w hw h.dc);rw[show P6.rO x.l 1=below x.l 1 from if_pos hw.root] at d;have t:Hid (∀b,fA w b->jA 36 #[lA p] b fun e w'=>e= .returned (aA ((x.R:Int)-m))/\fA b w'):=Zh (fun b u=>X4 b hm (H.dc.below u));have v:IntKind.i64.wrap ((nb:Int)-1)=(nb:Int)-1:=Ab dA dA;have y:IntKind.i64.wrap ((x.R:Int)-(m:Int)+((nb:Int)-1))=(x.R:Int)-(m:Int)+((nb:Int)-1):=Ab dA dA;have A:=Zh hb;clear h hw hm hb k;go_enter func81,ntmps81;go_wp2_with fail;refine d.mono ?_;rintro e B ⟨I,C,J,rfl,a,f⟩;obtain rfl:C=nb:=by obtain⟨D,_⟩:=vG a;rw[<-A.out];exact D.symm
 have i:=Zh f;have E:=Zh (H.below f);have r:=E.c0;clear f a d;go_wp2_with fail;refine(t B i).mono ?_;rintro e K ⟨rfl,l⟩;have F:=Zh (i.trans (l.mono i.size));clear l;go_wp2_with fail;go_ret;exact⟨rfl,F⟩
theorem E8:∀(l:List Int) (s:Sg),gJ l s->∀(j:Nat) (hj:j<l.length),(YA (cC (l.take j) s).1 (ZC l[j])).1=0
 |[],_,_,j,hj=>absurd hj FA
 |i:: l,s,h,0,_=>h.1
 |i:: l,s,h,j+1,hj=>E8 l (LA s (ZC i)) h.2 j (by simpa using hj)
theorem We{s:Sg}(hw:WF s.1):gJ (xA s.1.l 1) s:=by
 obtain⟨a,c⟩:=fJ hw 1;have b:J0 s 1:=⟨hw,by decide,hw.root⟩;have j:Jn s 1 (xA s.1.l 1) s:=⟨⟨hw,XE.refl _ _,a⟩,Tg.refl _,yP hw⟩;exact KO b (xA s.1.l 1) j (fun i d=>d) c
def wM(w:World)(g p:Nat)(x:Dx)(vd:Value)(r:Nat×Sg)(e:Ending)(w':World):Prop:=
 ∃(x':Dx) (vd':Value) (rs':List RR),e= .returned (QA (r.1:Nat))/\wB w 0 g p x vd x' vd' rs' w'/\(x'.d,rs'.map (·.r))=r.2
def Fw(w:World)(g p:Nat)(x:Dx)(vd:Value)(kk:List Int)(nk:Nat)(W:World)(s19:Value)(wr:World):Prop:=
 ∃(k:Nat) (xk:Dx) (vk:Value) (rk:List RR),k<=nk/\s19 = aA k/\Hid (wB W 0 g p x vd xk vk rk wr)/\Hid ((xk.d,rk.map (·.r))=cC (kk.take k) (x.d,[]))
theorem Pj(h:iD w s g p x vd [])(hw:WF x.d)(hn:x.n<=90000):
 jA 82 #[lA s] w (wM w g p x vd (0,cC (xA x.l 1) (x.d,[]))):=by
 have q2:=qF;have q3:=AF;have H:=Zh h;have HW:=Zh hw;have c0:=h.c0;have GO:=Zh (We (s:=(x.d,[])) hw);have CN:=Zh (tS 1 w hw h.dc);obtain⟨kk,b⟩:=DA (xA x.l 1);have Q:Hid (kk.length<=200):=Zh (by rw[<-b];exact LJ hw 1);rw[show xA (x.d,([]:List Rc)).1.l 1=kk from b] at GO;rw[b];have R:=Zh b;clear h hw b;go_enter func82,ntmps82;go_wp2_with fail;refine CN.mono ?_;rintro e c ⟨a,B,C,k,z,n2,A,rfl,_,_,m,_,d,b1⟩;rw[show xA x.d.l 1=xA x.l 1 from rfl,R.out] at m;rw[m] at d;have B1:=Zh b1;have D:=Zh d;have n:Hid (kk.length=n2):=Zh (by obtain⟨e1,_⟩:=vG d;exact e1);have a4:n2<=200:=(by have:=Q.out;have:=n.out;omega);clear b1 d m CN;go_upto_region 2 with fail;have S:Hid (fA c (c.alloc (.cells (bB a B C k z n2 A) 53))):=Zh ((Below.refl _ c).alloc Zl _);have T:=Zh (lB.new c a B C k z n2 A);generalize c.heap.size=gn at T|-;generalize c.alloc (.cells (bB a B C k z n2 A) 53)=W at S T|-;have BW:=Zh (B1.trans (S.mono B1.size));have U:=Zh (D.below S Zl);have o:=Zh (H.below BW);have d6:=T.c6;clear c0;go_wp2_with fail;go_loopw [19] (fun q wr=>Fw w g p x vd kk n2 W q wr) (fun q _=>n2-(intOf q).toNat)
 case atStart=>exact⟨0,x,vd,[],Nat.zero_le _,rfl,Zh (wB.same o.dc o.lg Ze),Zh rfl⟩
 case round=>
  obtain⟨j,M,vk,rk,hj,rfl,N,E⟩:=hrel;by_cases a5:j<n2
  ·have t:j<kk.length:=(IA n.out);have V:Hid (kI.Own wr w.heap.size (.slice z n2 A) kk):=Zh (U.but N.but (fun i hi e=>by
    have O:=(D.lt hi).1;have h2:i<w.heap.size:=e.elim (fun e=>H.dc.lt e) (fun e=>H.lg.lt e);omega))
   obtain⟨_,_,_,_,o5⟩:=vG V;obtain⟨bl,ol,rfl,_,g0⟩:=yE o5 t;have u:=Dh (kk.take j) kk[j] (x.d,([]:List Rc));have f:=E8 kk (x.d,[]) GO j t;rw[<-List.take_succ_eq_append_getElem t,<-E.out] at u;rw[<-E.out] at f;have GW:WF M.d:=by
    have:=P19.tN (kk.take j) (s:=(x.d,([]:List Rc))) HW;rw[<-E.out] at this;exact this
   have P:=UM (kk.take j) (x.d,([]:List Rc));rw[<-E.out] at P;have F:M.n<=100000:=(by have O:M.n=x.n:=P.1;omega);have G:rk.length<=1000000:=(by have h2:=P.2;simp only[List.length_map,List.length_take,List.length_nil] at h2;omega);have X:=Zh (o.sO N);have k:=X.c1;have Y:=Zh (JV (c':=0) (ZC kk[j]) none 0 0 wr f GW F (fun w9 _=>⟨Bu w9,QJ,QJ,QJ⟩) G X.dc X.lg);have v:=Zh u;have y:=Zh f;clear u f GW P F G o5;generalize kk[j]=ij at g0 Y v y;go_wp2_with fail;refine Y.mono ?_;rintro e w5 ⟨rfl,x5,Z,I,J,K,L,a6⟩;have a0:=Zh (wB.trans N J);have a1:Hid ((x5.d,I.map (·.r))=cC (kk.take (j+1)) (x.d,[])):=Zh (by
    rw[v.out,K,L,if_pos rfl];unfold LA;rw[y.out,if_pos rfl])
   clear J K L Y v y k g0;rw[qM];go_wp2_with fail;go_roundw
   case rel=>exact⟨j+1,x5,Z,I,by omega,by go_num,a0,a1⟩
   case measure=>simp[intOf];omega
  ·obtain rfl:j=n2:=dA
   have a2:kk.take j=kk:=List.take_of_length_le (by rw[n.out];exact Zl);have a3:Hid (wM w g p x vd (0,cC kk (x.d,[])) (.returned .nilIface) wr):=Zh (by
    have O:=E.out;rw[a2] at O;exact⟨M,vk,rk,rfl,wB.trans (wB.same H.dc H.lg BW) N,O⟩)
   go_wp2_with fail;go_ret;exact a3
end
end P21
end Go.Proofs.YtimfajmknmlajaaGreatDoor
