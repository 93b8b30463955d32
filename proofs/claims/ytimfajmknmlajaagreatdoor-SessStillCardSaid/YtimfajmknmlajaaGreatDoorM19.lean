/- A part of the proof. No condition. -/
import Derived.Deep.RegionHeld3
import Derived.Test.YtimfajmknmlajaaGreatDoorM1
import Derived.Test.YtimfajmknmlajaaGreatDoorM3
import Derived.Test.YtimfajmknmlajaaGreatDoorM4
import Derived.Test.YtimfajmknmlajaaGreatDoorM5
import Derived.Test.YtimfajmknmlajaaGreatDoorM6
import Derived.Test.YtimfajmknmlajaaGreatDoorM7
import Derived.Test.YtimfajmknmlajaaGreatDoorM10
import Derived.Test.YtimfajmknmlajaaGreatDoorM11
import Derived.Test.YtimfajmknmlajaaGreatDoorM14
import Derived.Test.YtimfajmknmlajaaGreatDoorM16
import Derived.Test.YtimfajmknmlajaaGreatDoorM17
set_option linter.unusedVariables false
set_option linter.unusedSimpArgs false
set_option maxRecDepth 100000
set_option maxHeartbeats 40000000
namespace Go.Proofs.YtimfajmknmlajaaGreatDoor
open Go.Proofs.Tryz
namespace P19
open Go.RowKit Kd P4 P5 P7 P14 P16
def Pw(w:World)(B g p:Nat)(x:Dx)(vd:Value)(Z:Nat->Prop)(s:Sg)(wx:World):Prop:=
 ∃(x':Dx) (vd':Value) (rs':List RR),wB w B g p x vd x' vd' rs' wx/\(x'.d,rs'.map (·.r))=s/\∀k,Z k->k<wx.heap.size/\¬EF p x' g vd' k
def Kept(Z:Nat->Prop)(wx w':World):Prop:=∃F:Nat->Prop,iA F wx w'/\(∀k,Z k->¬F k)/\vC wx F
section
variable{w wx w' w2:World}{B g p:Nat}{x x':Dx}{vd vd':Value}{rs rs':List RR}{Z Z':Nat->Prop}{s:Sg}
theorem Kept.oB(h:fA wx w'):Kept Z wx w':=⟨fun _=>False,iA.oB h _,fun _ _ h=>h,vC.none _⟩
theorem Kept.less(h:Kept Z wx w')(hZ:∀k,Z' k->Z k):Kept Z' wx w':=by
 obtain⟨F,a,b,c⟩:=h;exact⟨F,a,fun k d=>b k (hZ k d),c⟩
theorem Kept.trans(h:Kept Z wx w')(k:Kept Z w' w2):Kept Z wx w2:=by
 obtain⟨F,f,l,m⟩:=h;obtain⟨G,n,o,p⟩:=k;refine⟨fun i=>F i\/G i,(f.mono (fun _ _ h=> .inl h)).trans n (fun i _ h=> .inr h),fun i g e=>e.elim (l i g) (o i g),fun i a j e b=>?_⟩;by_cases c:F i
 ·exact m i a j c b
 ·rcases e with e|e
  ·exact c e
  ·have d:i<wx.heap.size:=JA b;exact p i a j e ((f.block i d c).trans b)
theorem Kept.size(h:Kept Z wx w'):wx.heap.size<=w'.heap.size:=by
 obtain⟨F,a,_⟩:=h;exact a.size
theorem Kept.block(h:Kept Z wx w'){k:Nat}(hk:Z k)(hl:k<wx.heap.size):w'.heap[k]? = wx.heap[k]?:=by
 obtain⟨F,a,b,_⟩:=h;exact a.block k hl (b k hk)
theorem Kept.cell(h:Kept Z wx w'){q:Addr}(hk:Z q.block)(hl:q.block<wx.heap.size):w'.cell? q=wx.cell? q:=World.cell?_of_block (h.block hk hl)
theorem Kept.own{P:Program}{α:Type}{K:Kind P α}{C:Nat}{v:Value}{l:List α}(h:Kept Z wx w')(ho:K.Own wx C v l)(hz:∀k,v.ownBlock=some k->Z k):K.Own w' C v l:=by
 obtain⟨F,a,b,_⟩:=h;exact ho.but a (fun i c e=>b i (hz i c) e)
theorem Pw.start(h:Dc w B p x)(l:Lg w B g p vd rs)(hZ:∀k,Z k->k<w.heap.size/\¬EF p x g vd k):Pw w B g p x vd Z (x.d,rs.map (·.r)) w:=
 ⟨x,vd,rs,⟨h,l,iA.refl _ _,fun _ h=> .inl h,fun _ h=> .inl h⟩,rfl,hZ⟩
theorem Pw.below(h:Pw w B g p x vd Z s wx)(hb:fA wx w')(hZ:∀k,Z' k->Z k\/(wx.heap.size<=k/\k<w'.heap.size)):Pw w B g p x vd Z' s w':=by
 obtain⟨f,b,c,a,i,d⟩:=h;refine⟨f,b,c,⟨a.dc.below hb,a.lg.below hb,a.but.trans (iA.oB hb (fun _=>False)) (fun _ _ h=>h.elim),a.ft,a.lf⟩,i,fun k j=>?_⟩;rcases hZ k j with e|⟨e1,e2⟩
 ·exact⟨Nat.lt_of_lt_of_le (d k e).1 hb.size,(d k e).2⟩
 ·refine⟨e2,fun e=>?_⟩;rcases e with e|e
  ·have:=a.dc.lt e;omega
  ·have:=a.lg.lt e;omega
theorem Pw.less(h:Pw w B g p x vd Z s wx)(hZ:∀k,Z' k->Z k):Pw w B g p x vd Z' s wx:=by
 obtain⟨c,a,b,d,e,f⟩:=h;exact⟨c,a,b,d,e,fun k i=>f k (hZ k i)⟩
theorem Pw.at_(h:Pw w B g p x vd Z s wx):∃(x':Dx) (vd':Value) (rs':List RR),Dc wx B p x'/\Lg wx B g p vd' rs'/\x'.d=s.1/\rs'.map (·.r)=s.2:=by
 obtain⟨x',vd',rs',a,b,_⟩:=h;exact⟨x',vd',rs',a.dc,a.lg,congrArg Prod.fst b,congrArg Prod.snd b⟩
theorem UP{c':Int}(r:Rc)(A:vA)(n c:Nat)(h:Pw w B g p x vd Z s wx)(hc:(YA s.1 r).1=c')(hwf:WF s.1)(hn:s.1.n<=100000)(hl:s.2.length<=1000000)(h1:r.tag.size<=maxLen)(h2:r.txt.size<=maxLen)(h3:r.key.size<=maxLen)(hat:ZB wx ⟨A,n,c⟩ r.attrs)(hwa:P3.Wf r.attrs)(nD:n<=1000000):
 jA 125 #[lA g,.agg (lF r A n c)] wx fun e w'=>e= .returned (QA c')/\Pw w B g p x vd Z (LA s r) w'/\Kept Z wx w':=by
 obtain⟨o,u,j,a,rfl,z⟩:=h;have l:vC wx (fun k=>fC p o k\/eG g u k):=EV a.dc.QE a.lg.QE;refine(JV r A n c wx hc hwf hn (fun G D=>?_) (by simpa using hl) a.dc a.lg).mono ?_
 ·have q:=hat.but D l;exact⟨⟨q.len,q.cap,q.nil,nD,hwa,q.holds⟩,h1,h2,h3⟩
 ·rintro e w' ⟨rfl,C,v,m,b,E,F,_⟩;refine⟨rfl,⟨C,v,m,⟨b.dc,b.lg,a.but.trans b.but (fun i H d=>?_),fun k f=>?_,fun k f=>?_⟩,?_,fun k f=>?_⟩,⟨_,b.but,fun k f=>(z k f).2,l⟩⟩
  ·rcases d with d|d
   ·exact(a.ft i d).elim .inl (fun e=>by omega)
   ·rcases d with rfl|d
    ·exact .inr (.inl rfl)
    ·exact(a.lf i d).elim (fun e=> .inr (.inr e)) (fun e=>by omega)
  ·rcases b.ft k f with e|e
   ·exact a.ft k e
   ·have:=a.but.size;exact .inr dA
  ·rcases b.lf k f with e|e
   ·exact a.lf k e
   ·have:=a.but.size;exact .inr dA
  ·show(C.d,m.map (·.r))=((YA o.d r).2,if(YA o.d r).1=0 then j.map (·.r)++[r] else j.map (·.r));have y:(YA o.d r).1=c':=hc;rw[E,F,y]
  ·have t:=z k f;refine⟨Nat.lt_of_lt_of_le t.1 b.but.size,fun e=>?_⟩;rcases e with e|e
   ·rcases b.ft k e with e|e
    ·exact t.2 (.inl e)
    ·omega
   ·rcases e with rfl|e
    ·exact t.2 (.inr (.inl rfl))
    ·rcases b.lf k e with e|e
     ·exact t.2 (.inr (.inr e))
     ·omega
end
variable{w wx w':World}{B g p:Nat}{x:Dx}{vd:Value}{Z:Nat->Prop}{s:Sg}
theorem kV(i:Int)(h:Pw w B g p x vd Z s wx)(hwf:WF s.1):jA 18 #[lA p,aA i] wx (vW s.1 i wx):=by
 obtain⟨e,a,b,c,_,d,_⟩:=h.at_;rw[<-d] at hwf|-;exact tS i wx hwf c
theorem Gb(h:Pw w B g p x vd Z s wx)(hn:s.1.n<=100000):jA 16 #[lA p] wx fun e w'=>e= .returned (aA (s.1.n+1))/\wx=w':=by
 obtain⟨a,b,c,d,_,f,_⟩:=h.at_;have hx:a.n=s.1.n:=congrArg D.n f;exact P5.iI wx dA (by rw[hx]) d
theorem No(h:Pw w B g p x vd Z s wx):jA 17 #[lA p] wx fun e w'=>e= .returned (aA s.1.nB)/\wx=w':=by
 obtain⟨a,b,c,d,_,f,_⟩:=h.at_;have:=P5.LO wx d;rwa[show a.nB=s.1.nB from congrArg D.nB f] at this
theorem Tj(a b:Int)(h:Pw w B g p x vd Z s wx)(hwf:WF s.1):jA 256 #[lA p,aA a,aA b] wx fun e w'=>e= .returned (.bool (inside s.1.l a b))/\fA wx w':=by
 obtain⟨d,f,i,j,_,c,_⟩:=h.at_;rw[<-c] at hwf;have:=P6.Qf a b wx hwf j;rwa[show d.l=s.1.l from congrArg D.l c] at this
def xI(w:World)(B g p:Nat)(x:Dx)(vd:Value)(Z:Nat->Prop)(s:Sg)(r:Rc)(wx:World)(e:Ending)(w':World):Prop:=e= .returned (QA (YA s.1 r).1)/\Pw w B g p x vd Z (LA s r) w'/\Kept Z wx w'
theorem rH:(⟨#[]⟩:qA).size<=maxLen:=by unfold maxLen;decide
theorem gS:P3.Wf []:=fun _ h=>absurd h FA
theorem gv(i q b:Int)(h:Pw w B g p x vd Z s wx)(hwf:WF s.1)(hn:s.1.n<=100000)(hl:s.2.length<=1000000):
 jA 125 #[lA g,.agg #[aA 2,aA i,aA q,aA b,oA,oA,oA,tA]] wx (xI w B g p x vd Z s (LB i q b) wx):=
 UP (LB i q b) none 0 0 h rfl hwf hn hl rH rH rH (ZB.fK wx) gS dA
theorem Xs(i:Int)(h:Pw w B g p x vd Z s wx)(hwf:WF s.1)(hn:s.1.n<=100000)(hl:s.2.length<=1000000):
 jA 125 #[lA g,.agg #[aA 3,aA i,aA 0,aA 0,oA,oA,oA,tA]] wx (xI w B g p x vd Z s (ZC i) wx):=
 UP (ZC i) none 0 0 h rfl hwf hn hl rH rH rH (ZB.fK wx) gS dA
theorem Ys(i:Int)(t:qA)(h:Pw w B g p x vd Z s wx)(hwf:WF s.1)(hn:s.1.n<=100000)(hl:s.2.length<=1000000)(ht:t.size<=maxLen):
 jA 125 #[lA g,.agg #[aA 5,aA i,aA 0,aA 0,oA,bA t,oA,tA]] wx (xI w B g p x vd Z s (AE i t) wx):=
 UP (AE i t) none 0 0 h rfl hwf hn hl rH ht rH (ZB.fK wx) gS dA
theorem jt(i:Int)(tag txt key:qA)(h:Pw w B g p x vd Z s wx)(hwf:WF s.1)(hn:s.1.n<=100000)(hl:s.2.length<=1000000)(h1:tag.size<=maxLen)(h2:txt.size<=maxLen)(h3:key.size<=maxLen):
 jA 125 #[lA g,.agg #[aA 1,aA i,aA 0,aA 0,bA tag,bA txt,bA key,tA]] wx (xI w B g p x vd Z s (sB i tag txt key) wx):=
 UP (sB i tag txt key) none 0 0 h rfl hwf hn hl h1 h2 h3 (ZB.fK wx) gS dA
theorem Ib(i:Int)(a:List P3.At)(A:vA)(n c:Nat)(h:Pw w B g p x vd Z s wx)(hwf:WF s.1)(hn:s.1.n<=100000)(hl:s.2.length<=1000000)(hat:ZB wx ⟨A,n,c⟩ a)(ha:P3.Wf a)(nD:n<=1000000):
 jA 125 #[lA g,.agg #[aA 4,aA i,aA 0,aA 0,oA,oA,oA,.slice A n c]] wx (xI w B g p x vd Z s (MC i a) wx):=
 UP (MC i a) A n c h rfl hwf hn hl rH rH rH hat ha nD
theorem Pw.DS(h:Pw w B g p x vd Z s wx):iA (EF p x g vd) w wx:=by
 obtain⟨d,a,b,c,_⟩:=h;exact c.but
def GS(w:World)(p:Nat)(x:Dx)(g:Nat)(vd:Value)(k:Nat):Prop:=k<w.heap.size/\¬EF p x g vd k
theorem Uj(h:Kept (GS w p x g vd) w w'):iA (EF p x g vd) w w':=by
 obtain⟨F,a,b,_⟩:=h;exact a.mono fun i c d=>Classical.byContradiction fun e=>b i ⟨c,e⟩ d
theorem Pw.top{rs:List RR}(h:Dc w B p x)(l:Lg w B g p vd rs):Pw w B g p x vd (GS w p x g vd) (x.d,rs.map (·.r)) w:=Pw.start h l (fun _ a=>a)
theorem Pw.read{R:World->Prop}(h:Pw w B g p x vd Z s wx)(hr:∀w',iA (EF p x g vd) w w'->R w'):R wx:=hr wx h.DS
def MD(w:World)(q g p:Nat)(par beh:Int)(v:Value):Prop:=w.heap[q]? = some (.cells #[.pointer (some ⟨g,0,none⟩),.pointer (some ⟨p,0,none⟩),.int .i64 par,v,.int .i64 beh] 261 (0,0))
def eC(Z:Nat->Prop)(q:Nat)(v:Value)(k:Nat):Prop:=Z k\/k=q\/v.ownBlock=some k
section
variable{w wx w':World}{B g p q:Nat}{x:Dx}{vd v v':Value}{Z:Nat->Prop}{s s1:Sg}{par beh:Int}{left:List Int}
theorem MD.c0(h:MD w q g p par beh v):w.cell? ⟨q,0,none⟩=some (.pointer (some ⟨g,0,none⟩)):=cell_of_row w q 0 _ _ (0,0) h
theorem MD.c1(h:MD w q g p par beh v):w.cell? ⟨q,1,none⟩=some (.pointer (some ⟨p,0,none⟩)):=cell_of_row w q 1 _ _ (0,0) h
theorem MD.c2(h:MD w q g p par beh v):w.cell? ⟨q,2,none⟩=some (.int .i64 par):=cell_of_row w q 2 _ _ (0,0) h
theorem MD.c3(h:MD w q g p par beh v):w.cell? ⟨q,3,none⟩=some v:=cell_of_row w q 3 _ _ (0,0) h
theorem MD.c4(h:MD w q g p par beh v):w.cell? ⟨q,4,none⟩=some (.int .i64 beh):=cell_of_row w q 4 _ _ (0,0) h
theorem MD.fr(h:MD w q g p par beh v)(i:Nat):w.frozen? ⟨q,i,none⟩=false:=by
 unfold MD at h;simp[World.frozen?,h]
theorem MD.lt(h:MD w q g p par beh v):q<w.heap.size:=JA h
theorem MD.kept(h:MD w q g p par beh v)(k:Kept Z w w')(hz:Z q):MD w' q g p par beh v:=(k.block hz h.lt).trans h
theorem MD.below(h:MD w q g p par beh v)(hb:Below w.heap.size w w'):MD w' q g p par beh v:=(hb.block q h.lt).trans h
structure Pl(w:World)(B g p:Nat)(x:Dx)(vd:Value)(Z:Nat->Prop)(q:Nat)(par beh:Int)(v:Value)(left:List Int)(s:Sg)(wx:World):Prop where
 pw:Pw w B g p x vd (eC Z q v) s wx
 zA:MD wx q g p par beh v
 own:kI.Own wx w.heap.size v left
 qn:w.heap.size<=q
 qz:¬Z q
 vz:∀k,v.ownBlock=some k->¬Z k
def LC(w:World)(B g p:Nat)(x:Dx)(vd:Value)(Z:Nat->Prop)(s1:Sg)(ok:Prop)(wx:World)(e:Ending)(w':World):Prop:=
 ∃(c:Int) (s':Sg),e= .returned (QA c)/\Pw w B g p x vd Z s' w'/\Kept Z wx w'/\(c=0->s'=s1)/\(ok->c=0)
theorem LC.yes{ok:Prop}(h:Pw w B g p x vd Z s1 w')(k:Kept Z wx w'):LC w B g p x vd Z s1 ok wx (.returned .nilIface) w':=⟨0,s1,rfl,h,k,fun _=>rfl,fun _=>rfl⟩
theorem LC.no{ok:Prop}{c:Int}(hc:c≠0)(h:Pw w B g p x vd Z s w')(k:Kept Z wx w')(hn:¬ok):LC w B g p x vd Z s1 ok wx (.returned (QA c)) w':=⟨c,s,rfl,h,k,fun e=>absurd e hc,fun e=>absurd e hn⟩
theorem Kept.refl(Z:Nat->Prop)(wx:World):Kept Z wx wx:=Kept.oB Ze
theorem YO{s:Sg}{r:Rc}{c:Int}(hc:(YA s.1 r).1=c)(h:c≠0):¬vD s r:=fun e=>h (hc.symm.trans e)
theorem YG{c:Int}(h:c≠0):QA c= .iface 29 (.int .i64 c):=by unfold QA;rw[if_neg h]
theorem Nw{w:World}{B:Nat}{v:Value}{l:List P3.At}(h:P3.Own w B v l):kA.Own w B v l:=by
 have e:kA.cells l=P3.tF l:=by
  unfold Kind.cells P3.tF;rfl
 have a:w.ownsRow B 131 3 v l.length (P3.tF l):=h;rw[<-e] at a;exact a
theorem Pl.kept(h:Pl w B g p x vd Z q par beh v left s wx)(hp:Pw w B g p x vd (eC Z q v) s1 w')(hk:Kept (eC Z q v) wx w'):Pl w B g p x vd Z q par beh v left s1 w':=
 ⟨hp,h.zA.kept hk (.inr (.inl rfl)),hk.own h.own (fun k hk=> .inr (.inr hk)),h.qn,h.qz,h.vz⟩
theorem Pw.drewN(h:Pw w B g p x vd Z s wx)(n:Nat):Pw w B g p x vd Z s (wx.drewN n):=h.below (OC Ze n) (fun _ a=> .inl a)
theorem Kept.Qc{n:Nat}(h:Kept Z (wx.drewN n) w'):Kept Z wx w':=(Kept.oB (OC Ze n)).trans h
theorem Pw.on(h:Pw w B g p x vd Z s wx)(hb:Below wx.heap.size wx w'):Pw w B g p x vd Z s w':=h.below hb (fun _ a=> .inl a)
theorem Kept.on{w2:World}(hb:Below wx.heap.size wx w')(h:Kept Z w' w2):Kept Z wx w2:=(Kept.oB hb).trans h
theorem xI.on{r:Rc}{e:Ending}{w2:World}(hb:Below wx.heap.size wx w')(h:xI w B g p x vd Z s r w' e w2):xI w B g p x vd Z s r wx e w2:=⟨h.1,h.2.1,h.2.2.on hb⟩
theorem Pl.below(h:Pl w B g p x vd Z q par beh v left s wx)(hb:Below wx.heap.size wx w'):Pl w B g p x vd Z q par beh v left s w':=
 h.kept (h.pw.below hb (fun k a=> .inl a)) (Kept.oB hb)
theorem Kept.out(h:Kept (eC Z q v) wx w'):Kept Z wx w':=h.less (fun _ a=> .inl a)
theorem Pw.JS{S:Nat->Prop}(h:Pw w B g p x vd Z s wx)(hb:iA S wx w')(hS:∀k,S k->w.heap.size<=k)(hZ:∀k,S k->k<wx.heap.size->Z k)(hA:vC wx S):Pw w B g p x vd Z s w':=by
 obtain⟨l,c,d,b,n,e⟩:=h;have m:∀k,EF p l g c k->¬S k:=fun k a f=>by
  have j:k<wx.heap.size:=by
   rcases a with a|a
   ·exact b.dc.lt a
   ·exact b.lg.lt a
  exact(e k (hZ k f j)).2 a
 refine⟨l,c,d,⟨b.dc.but hb (fun k a=>m k (.inl a)) hA,b.lg.but hb (fun k a=>m k (.inr a)) hA,b.but.trans hb (fun i o f=>?_),b.ft,b.lf⟩,n,fun k a=>⟨Nat.lt_of_lt_of_le (e k a).1 hb.size,(e k a).2⟩⟩;have:=hS i f;omega
end
variable{w wx w':World}{B g p q:Nat}{x:Dx}{vd v:Value}{Z:Nat->Prop}{s:Sg}{par beh:Int}
theorem Kept.holds{A:vA}{ids:List Int}(h:Kept Z wx w')(hh:kI.AA wx wx.heap.size A ids)(ha:∀b o,A=some (cA b o)->Z b):kI.AA w' w'.heap.size A ids:=
 (hh.VB (fun b ⟨o,ho⟩ hb=>h.block (ha b o ho) hb)).more h.size
theorem NZ(par b:Int):∀(l:List Int) (s:Sg),NK par b l s->∀k (h:k<l.length),vD (VE par b (l.take k) s) (LB l[k] par b)
 |[],_,_,k,h=>absurd h FA
 |i:: l,s,⟨h1,h2⟩,0,h=>h1
 |i:: l,s,⟨h1,h2⟩,k+1,h=>by
  have:=NZ par b l _ h2 k (by simpa using h);exact this
theorem zY:∀(l:List Int) (s:Sg),gJ l s->∀k (h:k<l.length),vD (cC (l.take k) s) (ZC l[k])
 |[],_,_,k,h=>absurd h FA
 |i:: l,s,⟨h1,h2⟩,0,h=>h1
 |i:: l,s,⟨h1,h2⟩,k+1,h=>by
  have:=zY l _ h2 k (by simpa using h);exact this
theorem Uf(l:List Int)(i:Int)(s:Sg):cC (l++[i]) s=LA (cC l s) (ZC i):=by
 unfold cC;rw[List.foldl_append];rfl
theorem OZ:∀(l:List Int) {s:Sg},WF s.1->WF (cC l s).1
 |[],_,h=>h
 |i:: l,s,h=>OZ l (qE h (ZC i))
def oe(w:World)(B g p:Nat)(x:Dx)(vd:Value)(Z:Nat->Prop)(wx:World)(n:Nat)(F:Nat->Sg)(s12:Value)(wr:World):Prop:=
 ∃k,k<=n/\s12 = aA k/\Hid (Pw w B g p x vd Z (F k) wr)/\Hid (Kept Z wx wr)
theorem J8(ids:List Int)(A:vA)(n c:Nat)(ZA:Int)(h:Pw w B g p x vd Z s wx)(hb:MD wx q g p par beh v)(hz:Z q)(hh:kI.AA wx wx.heap.size A ids)(ha:∀b o,A=some (cA b o)->Z b)(hn:ids.length=n)(nD:n<=300)(hwf:WF s.1)(hnn:s.1.n<=100000)(hl:s.2.length<=900000):
 jA 240 #[lA q,aA ZA,.slice A n c] wx (LC w B g p x vd Z (VE par ZA ids s) (NK par ZA ids s) wx):=by
 have q1:=qF;have q2:=AF;have H:=Zh h;have Q:=Zh hb;have E:=Zh hz;have R:=Zh hh;have S:=Zh ha;have F:=Zh hn;have T:=Zh hwf;clear h hb hz hh ha hn hwf;go_enter func240,ntmps240;go_wp2_with fail;go_loopw [12] (fun f wr=>oe w B g p x vd Z wx n (fun k=>VE par ZA (ids.take k) s) f wr) (fun f _=>n-(intOf f).toNat)
 case atStart=>exact⟨0,by omega,rfl,H,Zh (Kept.refl _ _)⟩
 case round=>
  obtain⟨k,hk,rfl,t,l⟩:=hrel;by_cases u:k<n
  ·have d:k<ids.length:=(by rw[F.out];exact u);obtain⟨b,o,rfl,U,G⟩:=yE (l.holds R S) d;have y:=Zh (Q.kept l E);have V:=y.c0;have W:=y.c2;obtain⟨I,J,X⟩:=xR par ZA (ids.take k) T;have Y:(ids.take k).length<=n:=(by rw[List.length_take];omega);have z:Hid (∀r,jA 125 _ (wr.drewN r) (xI w B g p x vd Z (VE par ZA (ids.take k) s) (LB ids[k] par ZA) (wr.drewN r))):=Zh (fun r=>gv (s:=VE par ZA (ids.take k) s) ids[k] par ZA (t.drewN r) I dA dA);obtain⟨m,K⟩:=DA ((YA (VE par ZA (ids.take k) s).1 (LB ids[k] par ZA)).1);have C:=Zh K;have L:Hid (VE par ZA (ids.take (k+1)) s=LA (VE par ZA (ids.take k) s) (LB ids[k] par ZA)):=Zh (by rw[List.take_succ_eq_append_getElem d,Gi]);have M:Hid (NK par ZA ids s->vD (VE par ZA (ids.take k) s) (LB ids[k] par ZA)):=Zh (fun e=>NZ par ZA ids s e k d);clear K I J X Y;generalize ids[k]=i at G z C L M;clear d;go_upto_region 4 with fail;go_region_held3 (fun w'=>w'.cell? (cA q 0)=some (lA g)/\w'.cell? (cA q 2)=some (aA par)) (first|go_keep|exact K9) ((first
    |(go_at_call 125;refine(z _).mono ?_;rintro e J ⟨rfl,N,D⟩;rw[C.out];have O:=Zh N;have P:=Zh (l.trans D.Qc);have j:=Zh (y.kept D.Qc E);have K9:=And.intro j.c0 j.c2;clear N D)
    |fail))
   all_goals
    clear z V W G;by_cases a:m=0
    ·subst a;rw[show QA 0= .nilIface from rfl];go_wp2_with fail;go_roundw
     case rel=>exact⟨k+1,by omega,by go_num,Zh (by(try dsimp only);rw[L.out];exact O),P⟩
     case measure=>simp[intOf];omega
    ·rw[YG a];go_wp2_with fail;go_ret;have:=LC.no (s1:=VE par ZA ids s) a O P (fun e=>YO C a (M e));rwa[YG a] at this
  ·obtain rfl:k=n:=dA
   have e:ids.take k=ids:=List.take_of_length_le (by rw[F.out];exact Zl);have HE:Hid (Pw w B g p x vd Z (VE par ZA ids s) wr):=Zh (by have:=t.out;simp only[e] at this;exact this);clear e t;go_wp2_with fail;go_ret;exact LC.yes HE l
theorem Xj{left:List Int}(h:Pl w B g p x vd Z q par beh v left s wx)(hn:left.length<=300)(hwf:WF s.1)(hnn:s.1.n<=100000)(hl:s.2.length<=900000):
 jA 176 #[lA q] wx (LC w B g p x vd (eC Z q v) (cC left s) (gJ left s) wx):=by
 have q1:=qF;have q2:=AF;obtain⟨A,n,c,rfl,_,_,_,_,_⟩:=h.own.slice;have P:=Zh (vG h.own);have r:=Zh P.1;have Q:n<=300:=(by rw[<-r.out];exact hn);have H:=Zh h;have R:=Zh hwf;have t:=h.zA.c3;have S:Hid (∀j,Kept (eC Z q (.slice A n c)) wx j->kI.AA j j.heap.size A left):=Zh (fun j T=>(vG (T.own H.own (fun k D=> .inr (.inr D)))).2.2.2.2);clear h hwf hn;go_enter func176,ntmps176;go_wp2_with fail;clear t;go_loopw [11] (fun f wr=>oe w B g p x vd (eC Z q (.slice A n c)) wx n (fun k=>cC (left.take k) s) f wr) (fun f _=>n-(intOf f).toNat)
 case atStart=>exact⟨0,by omega,rfl,Zh H.pw,Zh (Kept.refl _ _)⟩
 case round=>
  obtain⟨k,D,rfl,u,l⟩:=hrel;by_cases y:k<n
  ·have d:k<left.length:=(by rw[r.out];exact y);obtain⟨b,o,U,V,E⟩:=yE (S _ l) d;subst U;have W:=Zh (H.zA.kept l (.inr (.inl rfl)));have X:=W.c0;have F:=OZ (left.take k) R;obtain⟨G,Y⟩:=UM (left.take k) s;have w4:(left.take k).length<=n:=(by rw[List.length_take];omega);have z:=Zh (Xs (s:=cC (left.take k) s) left[k] u F dA dA);obtain⟨m,I⟩:=DA ((YA (cC (left.take k) s).1 (ZC left[k])).1);have C:=Zh I;have J:Hid (cC (left.take (k+1)) s=LA (cC (left.take k) s) (ZC left[k])):=Zh (by rw[List.take_succ_eq_append_getElem d,Uf]);have K:Hid (gJ left s->vD (cC (left.take k) s) (ZC left[k])):=Zh (fun e=>zY left s e k d);clear I F G Y w4;generalize left[k]=i at E z C J K;clear d;go_wp2_with fail;refine(z).mono ?_;rintro e G ⟨rfl,L,M⟩;rw[C.out];have N:=Zh L;have O:=Zh (l.trans M);clear L M z X E;by_cases a:m=0
   ·subst a;rw[show QA 0= .nilIface from rfl];go_wp2_with fail;go_roundw
    case rel=>exact⟨k+1,by omega,by go_num,Zh (by(try dsimp only);rw[J.out];exact N),O⟩
    case measure=>simp[intOf];omega
   ·rw[YG a];go_wp2_with fail;go_ret;have:=LC.no (s1:=cC left s) a N O (fun e=>YO C a (K e));rwa[YG a] at this
  ·obtain rfl:k=n:=dA
   have e:left.take k=left:=List.take_of_length_le (by rw[r.out];exact Zl);have HE:Hid (Pw w B g p x vd (eC Z q (.slice A k c)) (cC left s) wr):=Zh (by have:=u.out;simp only[e] at this;exact this);clear e u;go_wp2_with fail;go_ret;exact LC.yes HE l
variable{w wx w':World}{B g p q:Nat}{x:Dx}{vd v:Value}{Z:Nat->Prop}{s:Sg}{par beh:Int}{left:List Int}
theorem LC.from_{s1:Sg}{ok:Prop}{e:Ending}{wz:World}(k:Kept Z wx wz)(d:LC w B g p x vd Z s1 ok wz e w'):LC w B g p x vd Z s1 ok wx e w':=by
 obtain⟨c,a,b,f,i,j⟩:=d;exact⟨c,a,b,f,k.trans i,j⟩
theorem LC.less{Z':Nat->Prop}{s1:Sg}{ok:Prop}{e:Ending}(d:LC w B g p x vd Z s1 ok wx e w')(hZ:∀k,Z' k->Z k):LC w B g p x vd Z' s1 ok wx e w':=by
 obtain⟨c,a,b,f,i,j⟩:=d;exact⟨c,a,b,f.less hZ,i.less hZ,j⟩
theorem LC.jK{s1:Sg}{ok ok':Prop}{e:Ending}(d:LC w B g p x vd Z s1 ok wx e w')(h:ok'->ok):LC w B g p x vd Z s1 ok' wx e w':=by
 obtain⟨c,a,b,f,i,j,k⟩:=d;exact⟨c,a,b,f,i,j,fun l=>k (h l)⟩
theorem M8{W wz:World}{V:Value}{i ZA:Int}(h:Pw w B g p x vd Z s W)(hb:MD W q g p par beh V)(hz:Z q)(hwf:WF s.1)(hnn:s.1.n<=100000)(hl:s.2.length<=900000)(hbz:fA W wz)(hi:wz.heap[W.heap.size]? = some (.cells #[aA i] 3 (0,0))):
 jA 240 #[lA q,aA ZA,.slice (some ⟨W.heap.size,0,none⟩) 1 1] wz (LC w B g p x vd Z (LA s (LB i par ZA)) (vD s (LB i par ZA)) W):=by
 have a:=JA hi;have f:Pw w B g p x vd (fun k=>Z k\/k=W.heap.size) s wz:=h.below hbz (fun k c=>c.imp id (fun e=>by subst e;exact⟨Zl,a⟩));have j:kI.AA wz wz.heap.size (some ⟨W.heap.size,0,none⟩) [i]:=(Kind.AA.lit (K:=kI) (l:=[i]) hi rfl).more a;refine(J8 [i] _ 1 1 ZA f (hb.below hbz) (.inl hz) j (fun b o e=>by injection e with e;injection e with e1 _;exact .inr e1.symm) rfl dA hwf hnn hl).mono ?_;intro e w' d;exact((d.less (fun k c=> .inl c)).from_ (Kept.oB hbz)).jK (fun h=>⟨h,trivial⟩)
def qe(tag txt key:qA):Rc:=⟨0,0,0,0,tag,txt,key,[]⟩
theorem N8(tag txt key:qA)(h:Pl w B g p x vd Z q par beh v left s wx)(hwf:WF s.1)(hnn:s.1.n<=95000)(hl:s.2.length<=850000)(h1:tag.size<=maxLen)(h2:txt.size<=maxLen)(h3:key.size<=maxLen):
 jA 206 #[lA q,.agg #[aA 0,aA 0,aA 0,aA 0,bA tag,bA txt,bA key,tA]] wx
  (LC w B g p x vd (eC Z q v) (LA (LA s (sB (s.1.n+1) tag txt key)) (LB (s.1.n+1) par (vB left beh))) (vD s (sB (s.1.n+1) tag txt key)/\vD (LA s (sB (s.1.n+1) tag txt key)) (LB (s.1.n+1) par (vB left beh))) wx):=by
 have q1:=qF;have q2:=AF;obtain⟨A,n,c,rfl,_,_,_,_,_⟩:=h.own.slice;have i:Hid (VC (wx.alloc (.cells #[aA 0,aA 0,aA 0,aA 0,bA tag,bA txt,bA key,tA] 87)) wx.heap.size (qe tag txt key) none 0 0):=Zh (VC.new wx (qe tag txt key) none 0 0);have G:Hid (fA wx (wx.alloc (.cells #[aA 0,aA 0,aA 0,aA 0,bA tag,bA txt,bA key,tA] 87))):=Zh (Zb _ _);have H:=Zh h;have D:=Zh hwf;clear h hwf;go_enter func206,ntmps206;go_upto_region 1 with fail;generalize wx.alloc (.cells #[aA 0,aA 0,aA 0,aA 0,bA tag,bA txt,bA key,tA] 87)=y at i G|-;obtain⟨a,z⟩:=DA wx.heap.size;have P:Hid (wx.heap.size<=a):=Zh dA;have GL:Hid (a<y.heap.size):=Zh (by rw[<-z];exact i.lt);have Q:=Zh (H.below G);rw[z] at i|-;clear z;have V:=Zh (Gb Q.pw dA);have p1:=Q.zA.c1;have f0:y.frozen? (cA a 0)=false:=(by have l:=i.out;unfold VC at l;simp[World.frozen?,l]);have f1:y.frozen? (cA a 1)=false:=(by have l:=i.out;unfold VC at l;simp[World.frozen?,l]);have a0:y.cell? (cA a 0)=some (aA 0):=i.c0;have a1:y.cell? (cA a 1)=some (aA 0):=i.c1;go_upto_region 2 with(go_at_call 16;refine PA V ?_);have I:Hid (fA wx ((y.setCell (cA a 0) (aA 1)).setCell (cA a 1) (aA (s.1.n+1)))):=Zh ((G.setCell (p:=(cA a 0)) P _).setCell (p:=(cA a 1)) P _);have b:Hid (VC ((y.setCell (cA a 0) (aA 1)).setCell (cA a 1) (aA (s.1.n+1))) a (sB (s.1.n+1) tag txt key) none 0 0):=Zh (by
  have l:=i.out;unfold VC at l|-;exact heap_set (heap_set l 0 _) 1 _)
 clear V p1 f0 f1 a0 a1 Q G i GL;generalize (y.setCell (cA a 0) (aA 1)).setCell (cA a 1) (aA (s.1.n+1))=J at I b|-;have R:Hid (Pw w B g p x vd (fun k=>eC Z q (.slice A n c) k\/k=a) s J):=Zh (H.pw.below I (fun k t=>t.imp id (fun e=>by subst e;exact⟨P,b.lt⟩)));have E:=Zh (H.zA.below I);have W:Hid (∀o,fA J o->jA 125 _ o (xI w B g p x vd (fun k=>eC Z q (.slice A n c) k\/k=a) s (sB (s.1.n+1) tag txt key) J)):=Zh (fun o l=>(jt (s.1.n+1) tag txt key (R.on l) D dA dA h1 h2 h3).mono (fun e w' d=>d.on l));have p0:=E.c0;have X:=b.c0;have K:=b.c1;have Y:=b.c2;have r3:=b.c3;have r4:=b.c4;have r5:=b.c5;have r6:=b.c6;have r7:=b.c7;simp only[sB] at X K Y r3 r4 r5 r6 r7;obtain⟨m,hm⟩:=DA ((YA s.1 (sB (s.1.n+1) tag txt key)).1);have L:=Zh hm;clear hm;go_region_held3 (fun w'=>w'.cell? (cA q 0)=some (lA g)/\w'.cell? (cA a 0)=some (aA 1)/\w'.cell? (cA a 1)=some (aA (s.1.n+1))/\w'.cell? (cA a 2)=some (aA 0)/\w'.cell? (cA a 3)=some (aA 0)/\w'.cell? (cA a 4)=some (bA tag)/\w'.cell? (cA a 5)=some (bA txt)/\w'.cell? (cA a 6)=some (bA key)/\w'.cell? (cA a 7)=some (tA)) (first|go_keep|exact M) ((first
  |(go_at_call 125;refine(W _ VG).mono ?_;rintro e j ⟨rfl,S,N⟩;rw[L.out];have H4:=Zh S;have K4:=Zh N;have r:=Zh (E.kept N (.inl (.inr (.inl rfl))));have f:Hid (VC j a (sB (s.1.n+1) tag txt key) none 0 0):=Zh ((N.block (.inr rfl) b.lt).trans b);have M:j.cell? (cA q 0)=some (lA g)/\j.cell? (cA a 0)=some (aA 1)/\j.cell? (cA a 1)=some (aA (s.1.n+1))/\j.cell? (cA a 2)=some (aA 0)/\j.cell? (cA a 3)=some (aA 0)/\j.cell? (cA a 4)=some (bA tag)/\j.cell? (cA a 5)=some (bA txt)/\j.cell? (cA a 6)=some (bA key)/\j.cell? (cA a 7)=some (tA):=⟨r.c0,f.c0,f.c1,f.c2,f.c3,f.c4,f.c5,f.c6,f.c7⟩;clear S N)
  |fail))
 all_goals
  clear W p0 X K Y r3 r4 r5 r6 r7 M;have T:Hid (Kept (eC Z q (.slice A n c)) wx j):=Zh ((Kept.oB I).trans (K4.less (fun k t=> .inl t)));have HX:Hid (Pw w B g p x vd (eC Z q (.slice A n c)) (LA s (sB (s.1.n+1) tag txt key)) j):=Zh (H4.less (fun k t=> .inl t));by_cases u:m=0
  ·subst u;rw[show QA 0= .nilIface from rfl];have OM:Hid (vD s (sB (s.1.n+1) tag txt key)):=Zh L.out;have W4:Hid (WF (LA s (sB (s.1.n+1) tag txt key)).1):=Zh (qE D _);have n4:=cW s (sB (s.1.n+1) tag txt key);have l4:=jI s (sB (s.1.n+1) tag txt key);have OL:=Zh (vG (T.own H.own (fun k t=> .inr (.inr t))));have CF:Hid (∀o,fA j o->jA 241 #[.slice A n c,aA beh] o fun e w'=>e= .returned (aA (vB left beh))/\o=w'):=Zh (fun o l=>gI left A n c beh _ (OL.2.2.2.2.on l) OL.1);have CP:Hid (∀o,fA j o->o.heap[j.heap.size]? = some (.cells #[aA (s.1.n+1)] 3 (0,0))->jA 240 #[lA q,aA (vB left beh),.slice (some ⟨j.heap.size,0,none⟩) 1 1] o (LC w B g p x vd (fun k=>eC Z q (.slice A n c) k\/k=a) (LA (LA s (sB (s.1.n+1) tag txt key)) (LB (s.1.n+1) par (vB left beh))) (vD (LA s (sB (s.1.n+1) tag txt key)) (LB (s.1.n+1) par (vB left beh))) j)):=Zh (fun o l hi=>M8 H4 r (.inl (.inr (.inl rfl))) W4 dA dA l hi);have p3:=r.c3;have S:=r.c4;have K:=f.c1;simp only[sB] at K;clear n4 l4 L;obtain⟨nx,C⟩:=DA (vB left beh);rw[C] at CF CP;have NX:=Zh C;clear C;go_upto_region 5 with fail;go_region_held3 (fun w'=>w'.cell? (cA q 3)=some (.slice A n c)/\w'.cell? (cA q 4)=some (aA beh)/\w'.cell? (cA a 1)=some (aA (s.1.n+1))) (first|go_keep|exact M) ((first
    |(go_at_call 241;refine(CF _ (by first|exact OC Ze _|exact Ze.drew|exact OC (Zb _ _) _|exact(Zb _ _).drew|exact Zb _ _|exact(Ze.drew.alloc Zl _).drew|exact(OC Ze _).alloc Zl _|exact Ze)).mono ?_;rintro e w5 ⟨rfl,rfl⟩)
    |(go_at_call 240;refine(CP _ (by first|exact OC Ze _|exact Ze.drew|exact OC (Zb _ _) _|exact(Zb _ _).drew|exact Zb _ _|exact(Ze.drew.alloc Zl _).drew|exact(OC Ze _).alloc Zl _|exact Ze) (by first|exact heap_alloc_new _ _)).mono ?_;rintro e U ⟨m6,s6,rfl,d6⟩;have O:=Zh d6;clear d6;have M:U.cell? (cA q 3)=some (.slice A n c)/\U.cell? (cA q 4)=some (aA beh)/\U.cell? (cA a 1)=some (aA (s.1.n+1)):=⟨(r.kept O.2.1 (.inl (.inr (.inl rfl)))).c3,(r.kept O.2.1 (.inl (.inr (.inl rfl)))).c4,(O.2.1.cell (q:=(cA a 1)) (.inr rfl) f.lt).trans f.c1⟩;obtain⟨ev,F⟩:=DA (QA m6);rw[F])
    |fail))
   all_goals
    go_wp2_with fail;go_ret;rw[<-F];obtain⟨d1,d2,d3,d4⟩:=O;rw[<-NX.out] at d3 d4;exact⟨m6,s6,rfl,d1.less (fun k t=> .inl t),T.trans (d2.less (fun k t=> .inl t)),d3,fun ok=>d4 ok.2⟩
  ·rw[YG u];go_wp2_with fail;go_ret;have:=LC.no (s1:=LA (LA s (sB (s.1.n+1) tag txt key)) (LB (s.1.n+1) par (vB left beh))) (ok:=vD s (sB (s.1.n+1) tag txt key)/\vD (LA s (sB (s.1.n+1) tag txt key)) (LB (s.1.n+1) par (vB left beh))) u HX T (fun e=>YO L u e.1);rwa[YG u] at this
variable{w wx w':World}{B g p q:Nat}{x:Dx}{vd v:Value}{Z:Nat->Prop}{s:Sg}{par beh:Int}{left:List Int}
theorem Qw{l:List Int}{b:Int}(h:0<l.length):vB l b=l[0]:=by
 cases l with
 |nil=>simp at h
 |cons a r=>rfl
theorem Qo{id:Int}{k:Nat}(h:Pl w B g p x vd Z q par beh v left s wx)(hk:k<left.length)(hid:left[k]=id)(nD:left.length<=250)(hwf:WF s.1)(hnn:s.1.n<=95000)(hl:s.2.length<=850000):
 jA 236 #[lA q,aA k] wx (LC w B g p x vd (eC Z q v) (aD s par left beh id k).1 (YJ s par left beh id k) wx):=by
 rcases h.own.form with⟨hv,e⟩|⟨gb,c,cur,rfl,hob,y1,y2,y3,qD,UC,y4,y5⟩
 ·subst e;exact absurd hk FA
 obtain⟨n,hn⟩:=DA left.length;rw[hn] at h qD nD|-;have H:=Zh h;have LL:=Zh hn;have A:=Zh hwf;have OB:Hid (Z gb\/gb=q\/(Value.slice (some (cA gb 0)) n c).ownBlock=some gb):=Zh (.inr (.inr rfl));have Y:Hid (∀a,Kept (eC Z q (.slice (some (cA gb 0)) n c)) wx a->kI.AA a a.heap.size (some (cA gb 0)) left):=Zh (fun a l=>(vG (l.own H.own (fun k hk=> .inr (.inr hk)))).2.2.2.2);have GI:Hid (∀a,Kept (eC Z q (.slice (some (cA gb 0)) n c)) wx a->∀j (hj:j<left.length),a.cell? (cA gb j)=some (aA left[j])):=Zh (fun a l j hj=>by
  obtain⟨b',o',hA,_,gg⟩:=yE (Y a l) hj;injection hA with hA;injection hA with e1 e2;subst e1;subst e2;simpa using gg)
 have a2:k<n:=dA;have K:=GI wx (Kept.refl _ _) k hk;have p3:=h.zA.c3;rw[hid] at K;have i1:(0:Int)<=(k:Int):=dA;have i2:(k:Int)<(n:Int):=dA;have a3:=Zh hid;clear h hn hwf hob hid y1 y2 y3 y4 y5 cur;go_enter func236,ntmps236;by_cases C:k=0
 ·subst C;have m:Hid ((aD s par left beh id 0).1=s):=Zh (by unfold aD;simp);clear Y GI;go_wp2_with fail;go_ret;rw[m.out];exact LC.yes H.pw (Kept.refl _ _)
 ·have q0:((k:Int)==0)=false:=jB;have L:=Zh C;have p1:=H.zA.c1;have CO:Hid (∀a,fA wx a->jA 17 #[lA p] a fun e w'=>e= .returned (aA s.1.nB)/\a=w'):=Zh (fun a M=>No (H.pw.on M));have CI:Hid (∀a,fA wx a->jA 256 #[lA p,aA s.1.nB,aA id] a fun e w'=>e= .returned (.bool (inside s.1.l s.1.nB id))/\fA wx w'):=Zh (fun a l=>(Tj s.1.nB id (H.pw.on l) A).mono (by
   rintro e w' ⟨rfl,M⟩;exact⟨rfl,l.trans (M.mono l.size)⟩))
  obtain⟨bi,D⟩:=DA (inside s.1.l s.1.nB id);rw[D] at CI;have r:=Zh D;generalize s.1.nB=a4 at CO CI;clear D C;go_upto_region 4 with fail;clear K p3;go_cut [16] (fun a0 a1=>a0= .bool bi/\Hid (fA wx a1))
  case first=>
   go_region_held3 (fun w'=>w'.cell? (cA q 1)=some (lA p)) (first|go_keep|exact N) ((first
    |(go_at_call 17;refine PA (CO _ VG) ?_)
    |(go_at_call 256;refine(CI _ VG).mono ?_;rintro e E ⟨rfl,b6⟩;have B6:=Zh b6;have N:=(H.zA.below b6).c1;clear b6)
    |fail))
   all_goals
    go_wp2_with fail;go_meet;exact⟨rfl,B6⟩
  case rest=>
   obtain⟨rfl,BC⟩:=hcut;obtain⟨f,rfl⟩:∃f,f=wc:=⟨_,rfl⟩;have J:=Zh (H.below BC);have O:Hid (Kept (eC Z q (.slice (some (cA gb 0)) n c)) wx f):=Zh (Kept.oB BC);have p3:=J.zA.c3;clear CO CI p1;cases bi with
   |true=>
    have m:Hid ((aD s par left beh id k).1=VE par (vB (left.drop (k+1)) beh) (left.take k) s):=Zh (by unfold aD;rw[if_neg L.out,if_neg (by rw[r.out];decide)]);have F:Hid (YJ s par left beh id k->NK par (vB (left.drop (k+1)) beh) (left.take k) s):=Zh (fun e=>(e L).2 r);have p4:=J.zA.c4;have LT:Hid ((left.take k).length=k):=Zh (by rw[List.length_take,LL.out];omega);have P:Hid ((left.drop (k+1)).length=n-(k+1)):=Zh (by rw[List.length_drop,LL.out]);have G:Hid (∀a,fA f a->jA 240 #[lA q,aA (vB (left.drop (k+1)) beh),.slice (some (cA gb 0)) k c] a (LC w B g p x vd (eC Z q (.slice (some (cA gb 0)) n c)) (VE par (vB (left.drop (k+1)) beh) (left.take k) s) (NK par (vB (left.drop (k+1)) beh) (left.take k) s) wx)):=Zh (fun a l=>by
     refine(J8 (left.take k) (some (cA gb 0)) k c _ (J.pw.on l) (J.zA.below l) (.inr (.inl rfl)) (((Y f O).take k).on l) (fun b o e=>by injection e with e;injection e with e1 _;subst e1;exact OB) LT dA A dA dA).mono ?_;intro e w' d;exact d.from_ (O.trans (Kept.oB l)))
    have i3:(k:Int)<=(c:Int):=dA;have i5:(n:Int)<=(c:Int):=dA;have i6:IntKind.i64.wrap ((k:Int)+1)=((k+1:Nat):Int):=by
     unfold maxLen at UC;simp[IntKind.wrap,IntKind.bits,IntKind.signed];omega
    have i7:((k+1:Nat):Int)<=(n:Int):=dA;have i8:(0:Int)<=((k+1:Nat):Int):=dA;have HR:Hid (kI.AA f f.heap.size (some ⟨gb,k+1,none⟩) (left.drop (k+1))):=Zh (by
     have:=(Y f O).drop (k+1);simpa[kI] using this)
    have t:Hid (c=k+1->kI.AA f f.heap.size (some (cA gb 0)) (left.drop (k+1))):=Zh (fun e=>by
     rw[List.drop_of_length_le (by rw[LL.out];omega)];exact Kind.AA.nil _ _ _)
    obtain⟨pe,I⟩:=DA (k+1);rw[I] at P i6 i7 i8 m F G HR t;have PE:Hid (k+1=pe):=Zh I;generalize Q:vB (left.drop pe) beh=nx at m F G;have NX:=Zh Q;clear I Q L GI;by_cases R:c=pe
    ·subst R;obtain rfl:n=c:=dA
     have CF:Hid (∀a,fA f a->jA 241 #[.slice (some (cA gb 0)) 0 0,aA beh] a fun e w'=>e= .returned (aA nx)/\a=w'):=Zh (fun a l=>by
      have:=gI (left.drop n) (some (cA gb 0)) 0 0 beh a ((t rfl).on l) (by rw[P.out];omega);rwa[NX.out] at this)
     clear HR t P;go_upto_region 5 with fail;go_region_held3 (fun w'=>w'.cell? (cA q 3)=some (.slice (some (cA gb 0)) n n)/\w'.cell? (cA q 4)=some (aA beh)) (first|go_keep|exact N) ((first
      |(go_at_call 241;refine PA (CF _ VG) ?_)
      |(go_at_call 240;refine(G _ VG).mono ?_;rintro e E ⟨y,S,rfl,z⟩;have u:=Zh z;clear z;have N:E.cell? (cA q 3)=some (.slice (some (cA gb 0)) n n)/\E.cell? (cA q 4)=some (aA beh):=⟨(H.zA.kept u.2.1 (.inr (.inl rfl))).c3,(H.zA.kept u.2.1 (.inr (.inl rfl))).c4⟩;obtain⟨ev,i⟩:=DA (QA y);rw[i])
      |fail))
     all_goals
      go_wp2_with fail;go_ret;rw[<-i,m.out];obtain⟨T,U,V,W⟩:=u;exact⟨y,S,rfl,T,U,V,fun X=>W (F X)⟩
    ·have CF:Hid (∀a,fA f a->jA 241 #[.slice (some (cA gb pe)) (n-pe) (c-pe),aA beh] a fun e w'=>e= .returned (aA nx)/\a=w'):=Zh (fun a l=>by
      have:=gI (left.drop pe) (some (cA gb pe)) (n-pe) (c-pe) beh a (HR.on l) P;rwa[NX.out] at this)
     clear HR t P;go_upto_region 5 with fail;go_region_held3 (fun w'=>w'.cell? (cA q 3)=some (.slice (some (cA gb 0)) n c)/\w'.cell? (cA q 4)=some (aA beh)) (first|go_keep|exact N) ((first
      |(go_at_call 241;refine PA (CF _ VG) ?_)
      |(go_at_call 240;refine(G _ VG).mono ?_;rintro e E ⟨y,S,rfl,z⟩;have u:=Zh z;clear z;have N:E.cell? (cA q 3)=some (.slice (some (cA gb 0)) n c)/\E.cell? (cA q 4)=some (aA beh):=⟨(H.zA.kept u.2.1 (.inr (.inl rfl))).c3,(H.zA.kept u.2.1 (.inr (.inl rfl))).c4⟩;obtain⟨ev,i⟩:=DA (QA y);rw[i])
      |fail))
     all_goals
      go_wp2_with fail;go_ret;rw[<-i,m.out];obtain⟨T,U,V,W⟩:=u;exact⟨y,S,rfl,T,U,V,fun X=>W (F X)⟩
   |false=>
    have m:Hid ((aD s par left beh id k).1=LA s (LB id par (vB left 0))):=Zh (by unfold aD;rw[if_neg L.out,if_pos r.out]);have F:Hid (YJ s par left beh id k->vD s (LB id par (vB left 0))):=Zh (fun e=>(e L).1 r);have G:Hid (∀a,fA f a->a.heap[f.heap.size]? = some (.cells #[aA id] 3 (0,0))->jA 240 #[lA q,aA (vB left 0),.slice (some ⟨f.heap.size,0,none⟩) 1 1] a (LC w B g p x vd (eC Z q (.slice (some (cA gb 0)) n c)) (LA s (LB id par (vB left 0))) (vD s (LB id par (vB left 0))) wx)):=Zh (fun a M hi=>(M8 J.pw J.zA (.inr (.inl rfl)) A dA dA M hi).mono (fun e w' d=>d.from_ O));have K:=GI f O 0 dA;rw[<-Qw (b:=0) dA] at K;have i3:(0:Int)<(n:Int):=dA;generalize vB left 0=nx at m F G K;go_wp2_with fail;refine(G _ (by first|exact Zb _ _) (heap_alloc_new _ _)).mono ?_;rintro e E ⟨y,S,rfl,z⟩;have u:=Zh z;clear z;obtain⟨ev,i⟩:=DA (QA y);rw[i];go_wp2_with fail;go_ret;rw[<-i,m.out];obtain⟨T,U,V,W⟩:=u;exact⟨y,S,rfl,T,U,V,fun X=>W (F X)⟩
structure lK(w:World)(B g p:Nat)(x:Dx)(vd:Value)(Z:Nat->Prop)(s:Sg)(wx:World)(par:Int)(ids:List Int)(A:vA)(n c:Nat)(A':vA)(n' c':Nat)(ts:List WV):Prop where
 pw:Pw w B g p x vd Z s wx
 wf:WF s.1
 p0:par≠0\/ids=[]
 kids:Kids s par ids
 AD:ids.Nodup
 len:ids.length=n
 cap:n<=c
 cm:c<=maxLen
 nil:A=none->c=0
 nD:n<=200
 ids:∀wz,Kept Z wx wz->kI.AA wz wz.heap.size A ids
 want:∀w',iA (EF p x g vd) w w'->Wn w' A' n' c' ts
 BJ:∀t∈ts,tC (er t)
 lH:cD (yA ts)<=1000
 num:s.1.n+(pC (yA ts):Nat)<=90000
 log:s.2.length+2000*(pC (yA ts)+1)<=800000
def kJ(ts:List WV):Prop:=∀(f:Nat),dL (yA ts)<=f->∀(w:World) (B g p:Nat) (x:Dx) (vd:Value) (Z:Nat->Prop) (s:Sg) (wx:World) (par:Int) (ids:List Int) (A:vA) (n c:Nat) (beh:Int) (A':vA) (n' c':Nat),
 lK w B g p x vd Z s wx par ids A n c A' n' c' ts->
 jA 132 #[lA g,lA p,aA par,.slice A n c,aA beh,.slice A' n' c'] wx (LC w B g p x vd Z (uB (f+1) s par ids beh (yA ts)) (cG (f+1) s par ids beh (yA ts)) wx)
def rD(w:World)(b:Nat)(t:WV):Prop:=w.heap[b]? = some (.cells (pL t) 268 (0,0))
section
variable{w w':World}{b:Nat}{t:WV}
theorem rD.new(w:World)(t:WV):rD (w.alloc (.cells (pL t) 268)) w.heap.size t:=heap_alloc_new w _
theorem rD.c0(h:rD w b t):w.cell? (cA b 0)=some (aA t.kind):=cell_of_row w b 0 _ _ (0,0) h
theorem rD.c1(h:rD w b t):w.cell? (cA b 1)=some (bA t.tag):=cell_of_row w b 1 _ _ (0,0) h
theorem rD.c2(h:rD w b t):w.cell? (cA b 2)=some (bA t.key):=cell_of_row w b 2 _ _ (0,0) h
theorem rD.c3(h:rD w b t):w.cell? (cA b 3)=some (bA t.txt):=cell_of_row w b 3 _ _ (0,0) h
theorem rD.c4(h:rD w b t):w.cell? (cA b 4)=some (.slice t.sa.A t.sa.n t.sa.c):=cell_of_row w b 4 _ _ (0,0) h
theorem rD.c5(h:rD w b t):w.cell? (cA b 5)=some (.slice t.sk.A t.sk.n t.sk.c):=cell_of_row w b 5 _ _ (0,0) h
theorem rD.lt(h:rD w b t):b<w.heap.size:=JA h
theorem rD.below(h:rD w b t)(hb:fA w w'):rD w' b t:=(hb.block b h.lt).trans h
theorem rD.kept{Z:Nat->Prop}(h:rD w b t)(k:Kept Z w w')(hz:Z b):rD w' b t:=(k.block hz h.lt).trans h
end
structure gy(t:WV):Prop where
 tag:t.tag.size<=maxLen
 key:t.key.size<=maxLen
 txt:t.txt.size<=maxLen
 mC:P3.Wf t.attrs
theorem mv{y:PW}(h:tC y):P3.Wf y.attrs:=by
 have key:∀l:List P3.At,(∀a∈l,P11.UB (vE a)=true)->P3.Wf l:=fun l c a b=>by
  obtain⟨d,e⟩:=P17.lZ (c a b);exact⟨Lc d,fS e⟩
 cases h with
 |el _ b _=>exact key _ b
 |vo _ b=>exact key _ b
 |tx _=>exact fun _ h=>by cases h
 |nd=>exact fun _ h=>by cases h
 |al=>exact fun _ h=>by cases h
theorem jS{t:WV}(h:tC (er t)):gy t:=by
 obtain⟨a,b,c⟩:=Aw h;have d:=mv h;rw[aF] at a b c d;exact⟨a,b,c,d⟩
theorem nv{y:PW}(h:tC y)(h1:y.kind=1):y.txt=⟨#[]⟩:=by
 cases h with
 |el=>rfl
 |vo=>rfl
 |tx=>cases h1
 |nd=>cases h1
 |al=>cases h1
theorem Xo{y:PW}(h:tC y)(h1:y.kind=2):y.tag=⟨#[]⟩/\y.key=⟨#[]⟩:=by
 cases h with
 |el=>cases h1
 |vo=>cases h1
 |tx=>exact⟨rfl,rfl⟩
 |nd=>cases h1
 |al=>cases h1
theorem yt{l:List P3.At}(h:P3.Wf l):P3.Wf (P3.TC l):=fun a b=>h a (P3.Y3 b)
theorem Yo{l m:List P3.At}(h:P3.Wf l)(k:P3.Wf m):P3.Wf (P3.lD l m):=fun a b=>(P3.ZY b).elim (h a) (k a)
theorem UZ{w:World}{l:List P3.At}{e:Ending}{w':World}(h:P3.eS w l e w'):∃A n c,e= .returned (.slice A n c)/\ZB w' ⟨A,n,c⟩ l/\fA w w':=by
 obtain⟨v,rfl,a,b⟩:=h;obtain⟨⟨A,n,c⟩,rfl,d⟩:=ZB.own (Nw a);exact⟨A,n,c,rfl,d,b⟩
section
variable{w wx w':World}{B g p q gw:Nat}{x:Dx}{vd v:Value}{Z Z':Nat->Prop}{s s1:Sg}{par beh:Int}{left:List Int}
theorem Pl.box(h:Pl w B g p x vd Z q par beh v left s wx)(hb:fA wx w')(hZ:∀k,Z' k->Z k\/(wx.heap.size<=k/\k<w'.heap.size)):Pl w B g p x vd Z' q par beh v left s w':=by
 refine⟨h.pw.below hb (fun k a=>?_),h.zA.below hb,h.own.below hb Zl,h.qn,fun e=>?_,fun k a e=>?_⟩
 ·rcases a with a|a|a
  ·exact(hZ k a).imp .inl id
  ·exact .inl (.inr (.inl a))
  ·exact .inl (.inr (.inr a))
 ·rcases hZ q e with e|e
  ·exact h.qz e
  ·have:=h.zA.lt;omega
 ·rcases hZ k e with e|e
  ·exact h.vz k a e
  ·have:=(h.own.lt a).2;omega
theorem ZL(hZ:∀k,Z k->Z' k):∀k,eC Z q v k->eC Z' q v k:=fun k a=>a.imp (hZ k) id
theorem LC.unbox{ok:Prop}{e:Ending}{wz:World}(d:LC w B g p x vd (eC Z' q v) s1 ok wz e w')(k:Kept (eC Z q v) wx wz)(hZ:∀k,Z k->Z' k):LC w B g p x vd (eC Z q v) s1 ok wx e w':=(d.less (ZL hZ)).from_ k
theorem Pl.unbox(h:Pl w B g p x vd Z' q par beh v left s wx)(hZ:∀k,Z k->Z' k):Pl w B g p x vd Z q par beh v left s wx:=
 ⟨h.pw.less (ZL hZ),h.zA,h.own,h.qn,fun e=>h.qz (hZ _ e),fun k a e=>h.vz k a (hZ _ e)⟩
end
def okF(f:Nat):nO:=fun s i ks w=>cG f s i ks 0 w
variable{w wx w':World}{B g p q:Nat}{x:Dx}{vd v:Value}{Z:Nat->Prop}{s:Sg}{par beh:Int}{left:List Int}
theorem Zo(t:WV)(hk:kJ t.kids)(f:Nat)(hf:dW (er t)<=f)(h1:t.kind=1)(h:Pl w B g p x vd Z q par beh v left s wx)(hwf:WF s.1)(hr:∀w',iA (EF p x g vd) w w'->oD kW w' w'.heap.size t)(hw:tC (er t))(hc:pF (er t)<=1000)(hn:s.1.n+(ZF (er t):Nat)<=90000)(hl:s.2.length+2000*ZF (er t)+500<=800000)
 {nd:Nd} {AV AK:vA} {nV cV nK cK C:Nat} (hfd:find s.1.l nd.id=some nd) (ha:ZB wx ⟨AV,nV,cV⟩ nd.attrs) (ho:kI.Own wx C (.slice AK nK cK) nd.kids) (hoz:∀k,(Value.slice AK nK cK).ownBlock=some k->Z k):
 jA 238 #[lA q,.agg #[aA t.kind,bA t.tag,bA t.key,bA t.txt,.slice t.sa.A t.sa.n t.sa.c,.slice t.sk.A t.sk.n t.sk.c],.agg #[aA nd.id,aA nd.par,bA nd.tag,bA nd.txt,bA nd.key,.slice AV nV cV,.slice AK nK cK,aA nd.note]] wx
  (LC w B g p x vd (eC Z q v) (cF (jF f) (er t) nd.id s) (NH (okF f) (er t) nd.id s) wx):=by
 have q1:=qF;have q2:=AF;have u:Hid (rD ((wx.alloc (.cells #[aA t.kind,bA t.tag,bA t.key,bA t.txt,.slice t.sa.A t.sa.n t.sa.c,.slice t.sk.A t.sk.n t.sk.c] 268)).alloc (.cells #[aA nd.id,aA nd.par,bA nd.tag,bA nd.txt,bA nd.key,.slice AV nV cV,.slice AK nK cK,aA nd.note] 53)) wx.heap.size t):=Zh (JB (rD.new wx t));have i:Hid (lB ((wx.alloc (.cells #[aA t.kind,bA t.tag,bA t.key,bA t.txt,.slice t.sa.A t.sa.n t.sa.c,.slice t.sk.A t.sk.n t.sk.c] 268)).alloc (.cells #[aA nd.id,aA nd.par,bA nd.tag,bA nd.txt,bA nd.key,.slice AV nV cV,.slice AK nK cK,aA nd.note] 53)) (wx.heap.size+1) nd AV nV cV AK nK cK):=Zh (by
  have:=lB.new (wx.alloc (.cells #[aA t.kind,bA t.tag,bA t.key,bA t.txt,.slice t.sa.A t.sa.n t.sa.c,.slice t.sk.A t.sk.n t.sk.c] 268)) nd AV nV cV AK nK cK;simpa using this)
 have BX:Hid (fA wx ((wx.alloc (.cells #[aA t.kind,bA t.tag,bA t.key,bA t.txt,.slice t.sa.A t.sa.n t.sa.c,.slice t.sk.A t.sk.n t.sk.c] 268)).alloc (.cells #[aA nd.id,aA nd.par,bA nd.tag,bA nd.txt,bA nd.key,.slice AV nV cV,.slice AK nK cK,aA nd.note] 53))):=Zh ((Zb _ _).alloc FA _);have H:=Zh h;have W:=Zh hwf;have HR:=Zh hr;have HW:=Zh hw;have HK:=Zh hk;have SZ:=jS hw;have z4:t.attrs.length<=1000/\cD (yA t.kids)<=1000:=by
  rw[aF,pF] at hc;omega
 have y:=(kG hfd).1;have X:=Lu (yP hwf nd y);have ND:Hid (sC s.1.l nd.id=nd):=Zh (by unfold sC;rw[hfd];rfl);have U:Hid (xA s.1.l nd.id=nd.kids):=Zh (EI hfd);have N0:Hid (nd.id≠0):=Zh (hwf.tr.jG (vK hfd));have a7:=Zh (fJ hwf nd.id);have NL:nd.kids.length<=200:=hwf.SO y;have HA:=Zh (Yo (m:=t.attrs) X.1 SZ.mC);have n8:nd.attrs.length<=8:=X.2;have a8:ZF (er t)=1+pC (yA t.kids):=(by rw[nN,XG]);obtain⟨zk,Y⟩:=DA (pC (yA t.kids));rw[a8,Y] at hn hl;have L:=Zh Y;have HC:=Zh z4.2;have z5:=z4.1;obtain⟨M,N⟩:∃M,f=M+1:=⟨f-1,by rw[zN] at hf;omega⟩;have a9:Hid (dL (yA t.kids)<=M):=Zh (by rw[zN,XG] at hf;omega);have KD:Hid ((er t).kind=1):=Zh (by rw[aF];exact h1);have z:=Zh (ha.below BX);have aa:=Zh (ho.below BX Zl);have V:=Zh ho;have ab:=Zh hoz;clear h hwf hr hw hk SZ hc a8 Y z4 hf h1 y X hfd ha ho hoz;go_enter func238,ntmps238;go_upto_region 1 with fail;generalize (wx.alloc (.cells #[aA t.kind,bA t.tag,bA t.key,bA t.txt,.slice t.sa.A t.sa.n t.sa.c,.slice t.sk.A t.sk.n t.sk.c] 268)).alloc (.cells #[aA nd.id,aA nd.par,bA nd.tag,bA nd.txt,bA nd.key,.slice AV nV cV,.slice AK nK cK,aA nd.note] 53)=w1 at u i BX z aa|-;obtain⟨a,a0⟩:=DA wx.heap.size;have GE:Hid (wx.heap.size<=a):=Zh dA;have GL:Hid (a+1<w1.heap.size):=Zh (by rw[<-a0];exact i.lt);rw[a0] at u i|-;clear a0;have H1:Hid (Pl w B g p x vd (fun k=>Z k\/k=a\/k=a+1) q par beh v left s w1):=Zh (H.box BX (fun k hk=>hk.imp id (fun e=>by have:=GE.out;have:=GL.out;omega)));have K1:Hid (Kept (eC Z q v) wx w1):=Zh (Kept.oB BX);have GZ:Hid (eC (fun k=>Z k\/k=a\/k=a+1) q v a):=Zh (.inl (.inr (.inl rfl)));have GN:Hid (eC (fun k=>Z k\/k=a\/k=a+1) q v (a+1)):=Zh (.inl (.inr (.inr rfl)));have LZ:Hid (∀k,Z k->(fun k=>Z k\/k=a\/k=a+1) k):=Zh (fun k hk=> .inl hk);obtain⟨b,ac⟩:=DA (a+1);rw[ac] at i GN H1 GZ LZ|-;have WT:=Zh (H1.pw.read HR);have l:=z.len;simp only at l;have CJ:=Zh (P3.mo nd.attrs t.attrs AV t.sa.A nV t.sa.n cV t.sa.c w1 l WT.al dA (IA WT.al) (eJ z.holds) (eJ WT.ah));have e4:=u.c4;have e5:=i.c5;clear BX GL GE H ac WT l;go_upto_region 2 with(go_at_call 257;refine CJ.mono ?_;intro e w3 ak;obtain⟨AJ,nJ,cJ,rfl,ad,b3⟩:=UZ ak);have O:=Zh ad;have H3:=Zh (H1.below b3);have K3:Hid (Kept (eC Z q v) wx w3):=Zh (K1.trans (Kept.oB b3));have ae:=Zh (u.below b3);have P:Hid (lB w3 b nd AV nV cV AK nK cK):=Zh ((b3.block _ i.lt).trans i);have a1:=Zh (z.below b3);clear CJ e4 e5 ad b3 H1 K1 u i z;have e5:=P.c5;have jl:=O.len;have j8:=P3.ZT nd.attrs t.attrs;have l:=a1.len;simp only at jl l;obtain⟨sm,a2⟩:=DA (P3.IE (P3.lD nd.attrs t.attrs) nd.attrs);have af:=Zh (P3.Xr (P3.lD nd.attrs t.attrs) nd.attrs AJ AV nJ nV cJ cV w3 a2 jl l dA dA (eJ O.holds) (eJ a1.holds));have ag:=Zh a2;clear a2 j8 l aa;have al:nJ<=1000000:=(IA (P3.ZT nd.attrs t.attrs));clear jl;obtain⟨sE,a3⟩:=DA (qG (er t) nd.id s);have j:=Zh a3;have T3:=Zh (Hq (t:=t) ND);rw[a3,ag.out] at T3;clear a3;go_upto_region 2 with fail;go_cut [18] (fun am an=>am= .bool (!sm)/\Hid (fA w3 an))
 case first=>
  go_wp2_with (go_at_call 258;refine af.mono ?_;rintro e n ⟨rfl,b4⟩;have B4:=Zh b4;clear b4);go_meet;exact⟨rfl,B4⟩
 case rest=>
  obtain⟨rfl,BC⟩:=hcut;obtain⟨n,rfl⟩:∃n,n=wc:=⟨_,rfl⟩;have H4:=Zh (H3.below BC);have K4:Hid (Kept (eC Z q v) wx n):=Zh (K3.trans (Kept.oB BC));have Q:=Zh (ae.below BC);have c:Hid (lB n b nd AV nV cV AK nK cK):=Zh ((BC.block _ P.lt).trans P);have ao:=Zh (O.below BC);clear af e5 H3 K3 ae P a1 O BC;cases sm with
  |true=>
   have R:Hid (sE=s):=Zh (by rw[T3.out,if_neg pA]);have A:Hid (Pl w B g p x vd (fun k=>Z k\/k=a\/k=b) q par beh v left sE n):=Zh (by rw[R.out];exact H4);have WE:Hid (WF sE.1):=Zh (by rw[R.out];exact W);have nE:sE.1.n<=s.1.n:=(by rw[R.out];exact Int.le_refl _);have lE:sE.2.length<=s.2.length+1:=(by rw[R.out];omega);clear H4;have PP:Hid (∀wz,fA n wz->lK w B g p x vd (eC (fun k=>Z k\/k=a\/k=b) q v) sE wz nd.id nd.kids AK nK cK t.sk.A t.sk.n t.sk.c t.kids):=Zh (fun wz o=>by
    have D:∀E,Kept (eC (fun k=>Z k\/k=a\/k=b) q v) wz E->kI.Own E C (.slice AK nK cK) nd.kids:=fun E hy=>(K4.trans ((Kept.oB o).trans (hy.less (ZL LZ)))).own V (fun k hk=> .inl (ab k hk))
    have F:=vG (D wz (Kept.refl _ _));exact {
     pw:=(A.below o).pw
     wf:=WE
     p0:=.inl N0
     kids:=by
      have:=(fJ WE nd.id).1;rwa[<-j.out,bN,U.out,j.out] at this
     AD:=by have:=a7.2;rwa[U.out] at this
     len:=F.1
     cap:=F.2.1
     cm:=F.2.2.1
     nil:=F.2.2.2.1
     nD:=by rw[<-F.1];exact NL
     ids:=fun E hy=>(vG (D E hy)).2.2.2.2
     want:=fun w' a4=>by
      have:=HR w' a4;exact⟨this.kl,this.kc,this.kz,this.kh,this.ks⟩
     BJ:=fun k hk=>SL HW _ (by rw[XG];exact mM hk)
     lH:=HC
     num:=by rw[L.out];omega
     log:=by rw[L.out];omega})
   have a5:Hid (∀wz,fA n wz->jA 132 #[lA g,lA p,aA nd.id,.slice AK nK cK,aA 0,.slice t.sk.A t.sk.n t.sk.c] wz (LC w B g p x vd (eC (fun k=>Z k\/k=a\/k=b) q v) (cF (jF f) (er t) nd.id s) (NH (okF f) (er t) nd.id s) n)):=Zh (fun wz o=>by
    have e1:cF (jF f) (er t) nd.id s=uB (M+1) sE nd.id nd.kids 0 (yA t.kids):=by
     rw[JT KD.out,bN,U.out,j.out,N,XG];rfl
    have e2:NH (okF f) (er t) nd.id s->cG (M+1) sE nd.id nd.kids 0 (yA t.kids):=fun ok=>by
     have:=(ok.2 KD).2;rw[bN,U.out,j.out,N,XG] at this;exact this
    rw[e1];refine(HK M a9 _ _ _ _ _ _ _ _ _ _ _ _ _ _ 0 _ _ _ (PP wz o)).mono ?_;intro e w' d;exact(d.from_ (Kept.oB o)).jK e2)
   have p0:=A.zA.c0;have p1:=A.zA.c1;have e0:=c.c0;have e6:=c.c6;have e5:=Q.c5;go_upto_region 6 with fail;go_region_held3 (fun w'=>w'.cell? (cA q 0)=some (lA g)/\w'.cell? (cA q 1)=some (lA p)/\w'.cell? (cA b 0)=some (aA nd.id)/\w'.cell? (cA b 6)=some (.slice AK nK cK)/\w'.cell? (cA a 5)=some (.slice t.sk.A t.sk.n t.sk.c)) (first|go_keep|exact K9) ((first
    |(go_at_call 132;refine(a5 _ VG).mono ?_;rintro e r ⟨m6,s6,rfl,d6⟩;have G:=Zh d6;clear d6;have I:Hid (lB r b nd AV nV cV AK nK cK):=Zh ((G.2.1.block GN c.lt).trans c);have K9:r.cell? (cA q 0)=some (lA g)/\r.cell? (cA q 1)=some (lA p)/\r.cell? (cA b 0)=some (aA nd.id)/\r.cell? (cA b 6)=some (.slice AK nK cK)/\r.cell? (cA a 5)=some (.slice t.sk.A t.sk.n t.sk.c):=⟨(A.zA.kept G.2.1 (.inr (.inl rfl))).c0,(A.zA.kept G.2.1 (.inr (.inl rfl))).c1,I.c0,I.c6,(Q.kept G.2.1 GZ).c5⟩;obtain⟨ev,J⟩:=DA (QA m6);rw[J])
    |fail))
   all_goals
    go_wp2_with fail;go_ret;rw[<-J];exact LC.unbox (wz:=n) ⟨m6,s6,rfl,G⟩ K4 LZ
  |false=>
   have R:Hid (sE=LA s (MC nd.id (P3.lD nd.attrs t.attrs))):=Zh (by rw[T3.out,if_pos rfl]);have CT:Hid (∀wz,fA n wz->jA 125 _ wz (xI w B g p x vd (eC (fun k=>Z k\/k=a\/k=b) q v) s (MC nd.id (P3.lD nd.attrs t.attrs)) n)):=Zh (fun wz o=>(Ib nd.id (P3.lD nd.attrs t.attrs) AJ nJ cJ (H4.pw.on o) W dA dA (ao.below o) HA al).mono (fun e w' d=>d.on o));have p0:=H4.zA.c0;have e0:=c.c0;obtain⟨m3,ah⟩:=DA ((YA s.1 (MC nd.id (P3.lD nd.attrs t.attrs))).1);have ai:=Zh ah;clear ah;go_upto_region 3 with fail;go_region_held3 (fun w'=>w'.cell? (cA q 0)=some (lA g)/\w'.cell? (cA b 0)=some (aA nd.id)) (first|go_keep|exact K9) ((first
    |(go_at_call 125;refine(CT _ VG).mono ?_;rintro e S ⟨rfl,p5,k5⟩;rw[ai.out];have H5:=Zh (H4.kept p5 k5);have K5:=Zh k5;have K9:=And.intro H5.zA.c0 ((k5.cell (q:=(cA b 0)) GN c.lt).trans c.c0);clear p5 k5)
    |fail))
   all_goals
    have a6:Hid (Kept (eC Z q v) wx S):=Zh (K4.trans (K5.less (ZL LZ)));have aj:=Zh (Q.kept K5 GZ);have T:Hid (lB S b nd AV nV cV AK nK cK):=Zh ((K5.block GN c.lt).trans c);clear CT p0 e0 H4 K4 Q c K5 K9;by_cases K:m3=0
    ·subst K;rw[show QA 0= .nilIface from rfl];have A:Hid (Pl w B g p x vd (fun k=>Z k\/k=a\/k=b) q par beh v left sE S):=Zh (by rw[R.out];exact H5);have WE:Hid (WF sE.1):=Zh (by rw[R.out];exact qE W _);have nE:sE.1.n<=s.1.n:=(by rw[R.out,XJ _ (show(4:Int)≠1 by decide)];exact Int.le_refl _);have lE:sE.2.length<=s.2.length+1:=(by rw[R.out];exact jI _ _);clear H5;have PP:Hid (∀wz,fA S wz->lK w B g p x vd (eC (fun k=>Z k\/k=a\/k=b) q v) sE wz nd.id nd.kids AK nK cK t.sk.A t.sk.n t.sk.c t.kids):=Zh (fun wz o=>by
      have D:∀E,Kept (eC (fun k=>Z k\/k=a\/k=b) q v) wz E->kI.Own E C (.slice AK nK cK) nd.kids:=fun E hy=>(a6.trans ((Kept.oB o).trans (hy.less (ZL LZ)))).own V (fun k hk=> .inl (ab k hk))
      have F:=vG (D wz (Kept.refl _ _));exact {
       pw:=(A.below o).pw
       wf:=WE
       p0:=.inl N0
       kids:=by
        have:=(fJ WE nd.id).1;rwa[<-j.out,bN,U.out,j.out] at this
       AD:=by have:=a7.2;rwa[U.out] at this
       len:=F.1
       cap:=F.2.1
       cm:=F.2.2.1
       nil:=F.2.2.2.1
       nD:=by rw[<-F.1];exact NL
       ids:=fun E hy=>(vG (D E hy)).2.2.2.2
       want:=fun w' a4=>by
        have:=HR w' a4;exact⟨this.kl,this.kc,this.kz,this.kh,this.ks⟩
       BJ:=fun k hk=>SL HW _ (by rw[XG];exact mM hk)
       lH:=HC
       num:=by rw[L.out];omega
       log:=by rw[L.out];omega})
     have a5:Hid (∀wz,fA S wz->jA 132 #[lA g,lA p,aA nd.id,.slice AK nK cK,aA 0,.slice t.sk.A t.sk.n t.sk.c] wz (LC w B g p x vd (eC (fun k=>Z k\/k=a\/k=b) q v) (cF (jF f) (er t) nd.id s) (NH (okF f) (er t) nd.id s) S)):=Zh (fun wz o=>by
      have e1:cF (jF f) (er t) nd.id s=uB (M+1) sE nd.id nd.kids 0 (yA t.kids):=by
       rw[JT KD.out,bN,U.out,j.out,N,XG];rfl
      have e2:NH (okF f) (er t) nd.id s->cG (M+1) sE nd.id nd.kids 0 (yA t.kids):=fun ok=>by
       have:=(ok.2 KD).2;rw[bN,U.out,j.out,N,XG] at this;exact this
      rw[e1];refine(HK M a9 _ _ _ _ _ _ _ _ _ _ _ _ _ _ 0 _ _ _ (PP wz o)).mono ?_;intro e w' d;exact(d.from_ (Kept.oB o)).jK e2)
     have p0:=A.zA.c0;have p1:=A.zA.c1;have e0:=T.c0;have e6:=T.c6;have e5:=aj.c5;go_upto_region 6 with fail;go_region_held3 (fun w'=>w'.cell? (cA q 0)=some (lA g)/\w'.cell? (cA q 1)=some (lA p)/\w'.cell? (cA b 0)=some (aA nd.id)/\w'.cell? (cA b 6)=some (.slice AK nK cK)/\w'.cell? (cA a 5)=some (.slice t.sk.A t.sk.n t.sk.c)) (first|go_keep|exact K9) ((first
      |(go_at_call 132;refine(a5 _ VG).mono ?_;rintro e r ⟨m6,s6,rfl,d6⟩;have G:=Zh d6;clear d6;have I:Hid (lB r b nd AV nV cV AK nK cK):=Zh ((G.2.1.block GN T.lt).trans T);have K9:r.cell? (cA q 0)=some (lA g)/\r.cell? (cA q 1)=some (lA p)/\r.cell? (cA b 0)=some (aA nd.id)/\r.cell? (cA b 6)=some (.slice AK nK cK)/\r.cell? (cA a 5)=some (.slice t.sk.A t.sk.n t.sk.c):=⟨(A.zA.kept G.2.1 (.inr (.inl rfl))).c0,(A.zA.kept G.2.1 (.inr (.inl rfl))).c1,I.c0,I.c6,(aj.kept G.2.1 GZ).c5⟩;obtain⟨ev,J⟩:=DA (QA m6);rw[J])
      |fail))
     all_goals
      go_wp2_with fail;go_ret;rw[<-J];exact LC.unbox (wz:=S) ⟨m6,s6,rfl,G⟩ a6 LZ
    ·rw[YG K];go_wp2_with fail;go_ret;have:=LC.no (s1:=cF (jF f) (er t) nd.id s) (ok:=NH (okF f) (er t) nd.id s) K (H5.unbox LZ).pw a6 (fun ok=>by
      have:=(ok.2 KD).1;rw[ND.out,QL,ag.out] at this;exact YO ai K (this rfl))
     rwa[YG K] at this
variable{w wx w':World}{B g p q:Nat}{x:Dx}{vd v:Value}{Z:Nat->Prop}{s:Sg}{par beh:Int}{left:List Int}
theorem yk(t:WV)(hk:kJ t.kids)(f:Nat)(hf:dW (er t)<=f)(h1:t.kind=1)(h:Pl w B g p x vd Z q par beh v left s wx)(hwf:WF s.1)(hr:∀w',iA (EF p x g vd) w w'->oD kW w' w'.heap.size t)(hw:tC (er t))(hc:pF (er t)<=1000)(hn:s.1.n+(ZF (er t):Nat)<=90000)(hl:s.2.length+2000*ZF (er t)+2000<=800000):
 jA 205 #[lA q,.agg #[aA t.kind,bA t.tag,bA t.key,bA t.txt,.slice t.sa.A t.sa.n t.sa.c,.slice t.sk.A t.sk.n t.sk.c]] wx
  (LC w B g p x vd (eC Z q v) (oF (jF f) par (vB left beh) (er t) s) (tJ (okF f) par (vB left beh) (er t) s) wx):=by
 have q1:=qF;have q2:=AF;have l:Hid (rD (wx.alloc (.cells #[aA t.kind,bA t.tag,bA t.key,bA t.txt,.slice t.sa.A t.sa.n t.sa.c,.slice t.sk.A t.sk.n t.sk.c] 268)) wx.heap.size t):=Zh (rD.new wx t);have BX:Hid (fA wx (wx.alloc (.cells #[aA t.kind,bA t.tag,bA t.key,bA t.txt,.slice t.sa.A t.sa.n t.sa.c,.slice t.sk.A t.sk.n t.sk.c] 268))):=Zh (Zb _ _);have H:=Zh h;have i:=Zh hwf;have HR:=Zh hr;have HW:=Zh hw;have HK:=Zh hk;have SZ:=jS hw;have z1:=SZ.tag;have z2:=SZ.key;have z4:t.attrs.length<=1000/\cD (yA t.kids)<=1000:=by
  rw[aF,pF] at hc;omega
 have HA:=Zh (yt SZ.mC);have X:ZF (er t)=1+pC (yA t.kids):=(by rw[nN,XG]);obtain⟨zk,N⟩:=DA (pC (yA t.kids));rw[X,N] at hn hl;have y:=Zh N;have HC:=Zh z4.2;have z5:=z4.1;obtain⟨z,A⟩:∃z,f=z+1:=⟨f-1,by rw[zN] at hf;omega⟩;have Y:Hid (dL (yA t.kids)<=z):=Zh (by rw[zN,XG] at hf;omega);have a0:Hid (t.txt=⟨#[]⟩):=Zh (by have:=nv hw (by rw[aF];exact h1);rw[aF] at this;exact this);have KD:Hid ((er t).kind=1):=Zh (by rw[aF];exact h1);clear h hwf hr hw hk SZ hc X N z4 hf h1;go_enter func205,ntmps205;go_upto_region 1 with fail;generalize wx.alloc (.cells #[aA t.kind,bA t.tag,bA t.key,bA t.txt,.slice t.sa.A t.sa.n t.sa.c,.slice t.sk.A t.sk.n t.sk.c] 268)=w1 at l BX|-;obtain⟨j,O⟩:=DA wx.heap.size;have GE:Hid (wx.heap.size<=j):=Zh dA;have GL:Hid (j<w1.heap.size):=Zh (by rw[<-O];exact l.lt);rw[O] at l|-;clear O;have H1:Hid (Pl w B g p x vd (fun k=>Z k\/k=j) q par beh v left s w1):=Zh (H.box BX (fun k hk=>hk.imp id (fun e=>by subst e;exact⟨GE,GL⟩)));have K1:Hid (Kept (eC Z q v) wx w1):=Zh (Kept.oB BX);have GZ:Hid (eC (fun k=>Z k\/k=j) q v j):=Zh (.inl (.inr rfl));have V:Hid (∀k,Z k->(fun k=>Z k\/k=j) k):=Zh (fun k hk=> .inl hk);have CN:=Zh (Gb H1.pw dA);have p1:=H1.zA.c1;have C:=l.c1;have e2:=l.c2;have CA:=Zh (N8 t.tag ⟨#[]⟩ t.key H1 i dA dA z1 rH z2);clear BX GL GE H;go_upto_region 2 with(go_at_call 16;refine CN.mono ?_;rintro e w' ⟨rfl,rfl⟩);go_upto_region 3 with(go_at_call 206;refine CA.mono ?_;rintro e w2 ⟨m,K,rfl,p2,k2,a1,a2⟩);have H2:=Zh (H1.kept p2 k2);have K2:Hid (Kept (eC Z q v) wx w2):=Zh (K1.trans (k2.less (ZL V)));have P:=Zh (l.kept k2 GZ);have a3:=Zh a2;have n:=Zh a1;clear CN CA p1 C e2 p2 k2 a2 a1 H1 K1 l;by_cases c:m=0
 ·subst c;rw[show QA 0= .nilIface from rfl];have E2:Hid (K=GF par (vB left beh) (er t) s):=Zh (by rw[Fa,a0.out];exact(n rfl));have W2:Hid (WF K.1):=Zh (by rw[n.out rfl];exact qE (qE i _) _);have n2:K.1.n<=s.1.n+1:=by
   rw[n.out rfl,XJ _ (show(2:Int)≠1 by decide)];exact cW _ _
  have l2:K.2.length<=s.2.length+2:=by
   rw[n.out rfl];have a:=jI s (sB (s.1.n+1) t.tag ⟨#[]⟩ t.key);have b:=jI (LA s (sB (s.1.n+1) t.tag ⟨#[]⟩ t.key)) (LB (s.1.n+1) par (vB left beh));omega
  have WT:=Zh (H2.pw.read HR);have CW:=Zh (P3.JR t.attrs t.sa.A t.sa.n t.sa.c w2 WT.al (IA WT.al) (eJ WT.ah));have e4:=P.c4;go_upto_region 6 with(go_at_call 239;refine CW.mono ?_;intro e L a7;obtain⟨A3,n3,c3,rfl,Q,b3⟩:=UZ a7);have AT:=Zh Q;have D:(P3.TC t.attrs).length=n3:=Q.len;have a8:n3<=1000000:=(IA (P3.A0 t.attrs));have W:=Zh (H2.below b3);have K3:Hid (Kept (eC Z q v) wx L):=Zh (K2.trans (Kept.oB b3));have E:=Zh (P.below b3);clear CW e4 Q b3 H2 K2 P a3 n WT;obtain⟨sE,o⟩:=DA (XF par (vB left beh) (er t) s);have F:=Zh o;by_cases R:P3.TC t.attrs=[]
  ·have h0:n3=0:=(by rw[<-D,R];rfl);subst h0;have G:Hid (sE=K):=Zh (by rw[<-o,Ga R,E2.out]);have r:Hid (Pl w B g p x vd (fun k=>Z k\/k=j) q par beh v left sE L):=Zh (by rw[G.out];exact W);have WE:Hid (WF sE.1):=Zh (by rw[G.out];exact W2);have nE:sE.1.n<=s.1.n+1:=(by rw[G.out];exact n2);have lE:sE.2.length<=s.2.length+3:=(by rw[G.out];omega);clear W W2 n2 l2 o D R;have PP:Hid (∀wz,fA L wz->lK w B g p x vd (eC (fun k=>Z k\/k=j) q v) sE wz (s.1.n+1) [] none 0 0 t.sk.A t.sk.n t.sk.c t.kids):=Zh (fun wz I=>{
    pw:=(r.below I).pw
    wf:=WE
    p0:=.inl (IA i.n0)
    kids:=fun _ h=>by cases h
    AD:=List.nodup_nil
    len:=rfl
    cap:=Zl
    cm:=Nat.zero_le _
    nil:=fun _=>rfl
    nD:=dA
    ids:=fun _ _=>Kind.AA.nil _ _ _
    want:=fun w' S=>by
     have:=HR w' S;exact⟨this.kl,this.kc,this.kz,this.kh,this.ks⟩
    BJ:=fun k hk=>SL HW _ (by rw[XG];exact mM hk)
    lH:=HC
    num:=by rw[y.out];omega
    log:=by rw[y.out];omega})
   have T:Hid (∀wz,fA L wz->jA 132 #[lA g,lA p,aA (s.1.n+1),tA,aA 0,.slice t.sk.A t.sk.n t.sk.c] wz (LC w B g p x vd (eC (fun k=>Z k\/k=j) q v) (oF (jF f) par (vB left beh) (er t) s) (tJ (okF f) par (vB left beh) (er t) s) L)):=Zh (fun wz I=>by
    have C:oF (jF f) par (vB left beh) (er t) s=uB (z+1) sE (s.1.n+1) [] 0 (yA t.kids):=by
     rw[ZU KD.out,TQ i.out,F.out,A,XG];rfl
    have e2:tJ (okF f) par (vB left beh) (er t) s->cG (z+1) sE (s.1.n+1) [] 0 (yA t.kids):=fun ok=>by
     have:=ok.2.2.2 KD;rw[TQ i.out,F.out,A,XG] at this;exact this
    rw[C];refine(HK z Y _ _ _ _ _ _ _ _ _ _ _ _ _ _ 0 _ _ _ (PP wz I)).mono ?_;intro e w' d;exact(d.from_ (Kept.oB I)).jK e2)
   have p0:=r.zA.c0;have p1:=r.zA.c1;have e5:=E.c5;go_upto_region 10 with fail;go_region_held3 (fun w'=>w'.cell? (cA q 0)=some (lA g)/\w'.cell? (cA q 1)=some (lA p)/\w'.cell? (cA j 5)=some (.slice t.sk.A t.sk.n t.sk.c)) (first|go_keep|exact K9) ((first
    |(go_at_call 132;refine(T _ VG).mono ?_;rintro e U ⟨m6,s6,rfl,d6⟩;have J:=Zh d6;clear d6;have K9:U.cell? (cA q 0)=some (lA g)/\U.cell? (cA q 1)=some (lA p)/\U.cell? (cA j 5)=some (.slice t.sk.A t.sk.n t.sk.c):=⟨(r.zA.kept J.2.1 (.inr (.inl rfl))).c0,(r.zA.kept J.2.1 (.inr (.inl rfl))).c1,(E.kept J.2.1 GZ).c5⟩;obtain⟨ev,u⟩:=DA (QA m6);rw[u])
    |fail))
   all_goals
    go_wp2_with fail;go_ret;rw[<-u];exact LC.unbox (wz:=L) ⟨m6,s6,rfl,J⟩ K3 V
  ·have h0:¬n3=0:=fun e=>R (List.length_eq_zero_iff.1 (D.trans e))
   have q3:((n3:Int)>0):=dA;have q4:(0:Int)<(n3:Int):=dA;have G:Hid (sE=LA K (MC (s.1.n+1) (P3.TC t.attrs))):=Zh (by rw[<-o,Gq R,E2.out]);have CT:=Zh (Ib (s.1.n+1) (P3.TC t.attrs) A3 n3 c3 W.pw W2 dA dA AT HA a8);have p0:=W.zA.c0;obtain⟨m3,a4⟩:=DA ((YA K.1 (MC (s.1.n+1) (P3.TC t.attrs))).1);have a5:=Zh a4;have HZ:=Zh R;clear h0 D a4 o R;go_upto_region 8 with(go_at_call 125;refine CT.mono ?_;rintro e M ⟨rfl,p4,k4⟩;rw[a5.out]);have H4:=Zh (W.kept p4 k4);have K4:Hid (Kept (eC Z q v) wx M):=Zh (K3.trans (k4.less (ZL V)));have a6:=Zh (E.kept k4 GZ);clear CT p0 p4 k4 W K3 E;by_cases c:m3=0
   ·subst c;rw[show QA 0= .nilIface from rfl];have r:Hid (Pl w B g p x vd (fun k=>Z k\/k=j) q par beh v left sE M):=Zh (by rw[G.out];exact H4);have WE:Hid (WF sE.1):=Zh (by rw[G.out];exact qE W2 _);have nE:sE.1.n<=s.1.n+1:=(by rw[G.out,XJ _ (show(4:Int)≠1 by decide)];exact n2);have lE:sE.2.length<=s.2.length+3:=(by rw[G.out];have:=jI K (MC (s.1.n+1) (P3.TC t.attrs));omega);clear H4 W2 n2 l2;have PP:Hid (∀wz,fA M wz->lK w B g p x vd (eC (fun k=>Z k\/k=j) q v) sE wz (s.1.n+1) [] none 0 0 t.sk.A t.sk.n t.sk.c t.kids):=Zh (fun wz I=>{
     pw:=(r.below I).pw
     wf:=WE
     p0:=.inl (IA i.n0)
     kids:=fun _ h=>by cases h
     AD:=List.nodup_nil
     len:=rfl
     cap:=Zl
     cm:=Nat.zero_le _
     nil:=fun _=>rfl
     nD:=dA
     ids:=fun _ _=>Kind.AA.nil _ _ _
     want:=fun w' S=>by
      have:=HR w' S;exact⟨this.kl,this.kc,this.kz,this.kh,this.ks⟩
     BJ:=fun k hk=>SL HW _ (by rw[XG];exact mM hk)
     lH:=HC
     num:=by rw[y.out];omega
     log:=by rw[y.out];omega})
    have T:Hid (∀wz,fA M wz->jA 132 #[lA g,lA p,aA (s.1.n+1),tA,aA 0,.slice t.sk.A t.sk.n t.sk.c] wz (LC w B g p x vd (eC (fun k=>Z k\/k=j) q v) (oF (jF f) par (vB left beh) (er t) s) (tJ (okF f) par (vB left beh) (er t) s) M)):=Zh (fun wz I=>by
     have C:oF (jF f) par (vB left beh) (er t) s=uB (z+1) sE (s.1.n+1) [] 0 (yA t.kids):=by
      rw[ZU KD.out,TQ i.out,F.out,A,XG];rfl
     have e2:tJ (okF f) par (vB left beh) (er t) s->cG (z+1) sE (s.1.n+1) [] 0 (yA t.kids):=fun ok=>by
      have:=ok.2.2.2 KD;rw[TQ i.out,F.out,A,XG] at this;exact this
     rw[C];refine(HK z Y _ _ _ _ _ _ _ _ _ _ _ _ _ _ 0 _ _ _ (PP wz I)).mono ?_;intro e w' d;exact(d.from_ (Kept.oB I)).jK e2)
    have p0:=r.zA.c0;have p1:=r.zA.c1;have e5:=a6.c5;go_upto_region 10 with fail;go_region_held3 (fun w'=>w'.cell? (cA q 0)=some (lA g)/\w'.cell? (cA q 1)=some (lA p)/\w'.cell? (cA j 5)=some (.slice t.sk.A t.sk.n t.sk.c)) (first|go_keep|exact K9) ((first
     |(go_at_call 132;refine(T _ VG).mono ?_;rintro e U ⟨m6,s6,rfl,d6⟩;have J:=Zh d6;clear d6;have K9:U.cell? (cA q 0)=some (lA g)/\U.cell? (cA q 1)=some (lA p)/\U.cell? (cA j 5)=some (.slice t.sk.A t.sk.n t.sk.c):=⟨(r.zA.kept J.2.1 (.inr (.inl rfl))).c0,(r.zA.kept J.2.1 (.inr (.inl rfl))).c1,(a6.kept J.2.1 GZ).c5⟩;obtain⟨ev,u⟩:=DA (QA m6);rw[u])
     |fail))
    all_goals
     go_wp2_with fail;go_ret;rw[<-u];exact LC.unbox (wz:=M) ⟨m6,s6,rfl,J⟩ K4 V
   ·rw[YG c];go_wp2_with fail;go_ret;have:=LC.no (s1:=oF (jF f) par (vB left beh) (er t) s) (ok:=tJ (okF f) par (vB left beh) (er t) s) c (H4.unbox V).pw K4 (fun ok=>by
     obtain⟨_,_,o3,_⟩:=ok;have:=o3 (by rw[QL];exact HZ);rw[QL] at this;rw[<-E2.out] at this;exact YO a5 c this)
    rwa[YG c] at this
 ·rw[YG c];go_wp2_with fail;go_ret;have:=LC.no (s1:=oF (jF f) par (vB left beh) (er t) s) (ok:=tJ (okF f) par (vB left beh) (er t) s) c (H2.unbox V).pw K2 (fun ok=>c (a3 (by
   obtain⟨o1,o2,_,_⟩:=ok;have C:(er t).tag=t.tag/\(er t).txt=t.txt/\(er t).key=t.key:=(by rw[aF];exact⟨rfl,rfl,rfl⟩);rw[C.1,C.2.1,C.2.2] at o1 o2;rw[a0.out] at o1 o2;exact⟨o1,o2⟩)))
  rwa[YG c] at this
variable{w wx w':World}{B g p q:Nat}{x:Dx}{vd v:Value}{Z:Nat->Prop}{s:Sg}{par beh:Int}{left:List Int}
def zF(w:World)(B g p:Nat)(x:Dx)(vd:Value)(Z:Nat->Prop)(q:Nat)(par beh:Int)(r:Sg×List Int)(ok:Prop)(wx:World)(e:Ending)(w':World):Prop:=
 ∃(c:Int) (v':Value) (left':List Int) (s':Sg),e= .returned (QA c)/\Pl w B g p x vd Z q par beh v' left' s' w'/\Kept Z wx w'/\(c=0->(s',left')=r)/\(ok->c=0)
theorem ov{gb k r c:Nat}{w5:World}(h:Pl w B g p x vd Z q par beh (.slice (some (cA gb 0)) (k+1+r) c) left s wx)(ho:kI.Own w5 w.heap.size (.slice (some (cA gb 0)) (k+r) c) (left.eraseIdx k))(hb:iA (fun i=>i=gb) wx w5):
 Pl w B g p x vd Z q par beh (.slice (some (cA gb 0)) (k+r) c) (left.eraseIdx k) s (w5.setCell (cA q 3) (.slice (some (cA gb 0)) (k+r) c))/\Kept Z wx (w5.setCell (cA q 3) (.slice (some (cA gb 0)) (k+r) c)):=by
 have f:gb≠q:=by
  rintro rfl;obtain⟨d,j⟩:=h.own.ty (g:=gb) rfl;have b:=h.zA;unfold MD at b;exact WA j b pA rfl
 have l:w5.heap[q]? = wx.heap[q]?:=hb.block q h.zA.lt (fun e=>f e.symm);have n:iA (fun i=>i=gb\/i=q) wx (w5.setCell (cA q 3) (.slice (some (cA gb 0)) (k+r) c)):=iA.setCell (S:=fun i=>i=gb\/i=q) (p:=(cA q 3)) (hb.mono (fun _ _ e=> .inl e)) (fun _=> .inr rfl) _;have o:vC wx (fun i=>i=gb\/i=q):=fun i u v a t=>by
  rcases a with rfl|rfl
  ·obtain⟨d,j⟩:=h.own.ty (g:=i) rfl;exact WA j t pA rfl
  ·have b:=h.zA;unfold MD at b;exact WA b t pA rfl
 have m:=(h.own.lt (g:=gb) rfl).1;refine⟨⟨?_,?_,?_,h.qn,h.qz,fun i a=>h.vz i a⟩,⟨_,n,fun i a e=>?_,o⟩⟩
 ·refine(h.pw.JS n (fun i a=>?_) (fun i a _=>?_) o).less (fun i a=>a)
  ·rcases a with rfl|rfl
   ·exact m
   ·exact h.qn
  ·rcases a with rfl|rfl
   ·exact .inr (.inr rfl)
   ·exact .inr (.inl rfl)
 ·have b:=h.zA;unfold MD at b|-;exact heap_set (l.trans b) 3 _
 ·exact ho.VB (fun i a=>Below.heap_setCell _ _ _ _ (by
   have:gb=i:=(by injection a);subst this;exact f))
 ·rcases e with rfl|rfl
  ·exact h.vz i rfl a
  ·exact h.qz a
theorem zt{l:List Int}{a:Int}(h:a∈l):SD l a=l.idxOf a:=by
 have b:=List.idxOf_lt_length_iff.2 h;refine yR b (List.getElem_idxOf b) (fun j d c e=>?_);have:=List.not_of_lt_findIdx (p:=(· == a)) c;simp at this;exact this e
theorem qk{l:List Int}{k:Nat}:l.eraseIdx k=l.take k++l.drop (k+1):=List.eraseIdx_eq_take_drop_succ l k
theorem uk(t:WV)(hk:kJ t.kids)(f:Nat)(hf:dW (er t)<=f)(h4:t.kind≠4)(h:Pl w B g p x vd Z q par beh v left s wx)(hwf:WF s.1)(hr:∀w',iA (EF p x g vd) w w'->oD kW w' w'.heap.size t)(hw:tC (er t))(hc:pF (er t)<=1000)(hn:s.1.n+(ZF (er t):Nat)<=90000)(hl:s.2.length+2000*ZF (er t)+2000<=800000)
 {id:Int} (hid:id∈left) (nD:left.length<=250) (hmw:WF (aD s par left beh id (left.idxOf id)).1.1) (hmh:nA (aD s par left beh id (left.idxOf id)).1.1.l id=true):
 jA 204 #[lA q,.agg #[aA t.kind,bA t.tag,bA t.key,bA t.txt,.slice t.sa.A t.sa.n t.sa.c,.slice t.sk.A t.sk.n t.sk.c],aA id] wx
  (zF w B g p x vd Z q par beh (if t.kind=3 then aD s par left beh id (left.idxOf id) else(cF (jF f) (er t) id (aD s par left beh id (left.idxOf id)).1,(aD s par left beh id (left.idxOf id)).2))
   (YJ s par left beh id (left.idxOf id)/\(t.kind≠3->NH (okF f) (er t) id (aD s par left beh id (left.idxOf id)).1)) wx):=by
 have q1:=qF;have q2:=AF;have y:=X3 (par:=par) hwf left beh id (left.idxOf id);have aq:1<=ZF (er t):=(by rw[nN];omega);have Q:(aD s par left beh id (left.idxOf id)).2=left.eraseIdx (left.idxOf id):=(by rw[qk];rfl);have K:=List.idxOf_lt_length_iff.2 hid;have R:=List.getElem_idxOf K;have IX:=Zh (zt hid);generalize left.idxOf id=k at y Q K R IX hmw hmh|-;obtain⟨r,S⟩:∃r,left.length=k+1+r:=⟨left.length-(k+1),by omega⟩;rcases h.own.form with⟨hv,e⟩|⟨gb,c,cur,rfl,hob,y1,y2,y3,qD,UC,y4,y5⟩
 ·subst e;exact absurd hid FA
 clear y1 y2 y3 y4 y5 cur;rw[S] at h qD;have ae:k+1+r<=250:=dA;have z:Hid (rD (wx.alloc (.cells #[aA t.kind,bA t.tag,bA t.key,bA t.txt,.slice t.sa.A t.sa.n t.sa.c,.slice t.sk.A t.sk.n t.sk.c] 268)) wx.heap.size t):=Zh (rD.new wx t);have BX:Hid (fA wx (wx.alloc (.cells #[aA t.kind,bA t.tag,bA t.key,bA t.txt,.slice t.sa.A t.sa.n t.sa.c,.slice t.sk.A t.sk.n t.sk.c] 268))):=Zh (Zb _ _);have H:=Zh h;have af:=Zh hwf;have HR:=Zh hr;have HW:=Zh hw;have HK:=Zh hk;have LL:=Zh S;have HF:=Zh hf;have HC:=Zh hc;have ag:=Zh hid;have ah:Hid (∀h:k<left.length,left[k]=id):=Zh (fun _=>R);have KL:=Zh K;have SZ:=Zh (jS hw);have MW:=Zh hmw;have MH:=Zh hmh;have M2:=Zh Q;obtain⟨m,T⟩:=DA (aD s par left beh id k);rw[T] at y MW MH M2|-;have ai:=Zh T;have aj:=y.1;have ar:=y.2;have a1:m.2=left.eraseIdx k:=M2;clear h hwf hr hw hk hob hf hc hid R K hmw hmh y Q T S a1;obtain⟨res,A⟩:=DA ((if t.kind=3 then m else(cF (jF f) (er t) id m.1,m.2)));rw[A];obtain⟨okp,C⟩:∃okp:Prop,(YJ s par left beh id k/\(t.kind≠3->NH (okF f) (er t) id m.1))=okp:=⟨_,rfl⟩;rw[C];have j:=Zh A;have D:Hid (okp->YJ s par left beh id k/\(t.kind≠3->NH (okF f) (er t) id m.1)):=Zh (fun e=>by rw[C];exact e);clear A C;have KD:Hid ((er t).kind=t.kind):=Zh (by rw[aF];rfl);go_enter func204,ntmps204;go_upto_region 1 with fail;generalize wx.alloc (.cells #[aA t.kind,bA t.tag,bA t.key,bA t.txt,.slice t.sa.A t.sa.n t.sa.c,.slice t.sk.A t.sk.n t.sk.c] 268)=w1 at z BX|-;obtain⟨b,U⟩:=DA wx.heap.size;have GE:Hid (wx.heap.size<=b):=Zh dA;have GL:Hid (b<w1.heap.size):=Zh (by rw[<-U];exact z.lt);rw[U] at z|-;clear U;have H1:Hid (Pl w B g p x vd (fun k=>Z k\/k=b) q par beh (.slice (some (cA gb 0)) (k+1+r) c) left s w1):=Zh (H.box BX (fun k hk=>hk.imp (fun e=>e) (fun e=>by subst e;exact⟨GE,GL⟩)));have K1:Hid (Kept Z wx w1):=Zh (Kept.oB BX);have GZ:Hid (eC (fun k=>Z k\/k=b) q (.slice (some (cA gb 0)) (k+1+r) c) b):=Zh (.inl (.inr rfl));have LZ:Hid (∀k,Z k->(fun k=>Z k\/k=b) k):=Zh (fun k hk=> .inl hk);have OL:=Zh (vG H1.own);have CX:=Zh (WM left id (some (cA gb 0)) (k+1+r) c w1 LL dA ag OL.2.2.2.2);rw[IX.out] at CX;have p3:=H1.zA.c3;have CA:=Zh (Qo H1 KL (ah _) (by rw[LL.out];exact ae) af dA dA);rw[ai.out] at CA;clear BX GL GE H OL;go_upto_region 2 with(go_at_call 133;refine PA CX ?_);clear p3 CX;go_upto_region 3 with(go_at_call 236;refine CA.mono ?_;rintro e w2 ⟨m1,s1,rfl,p2,k2,a2,a3⟩);have E:=Zh (H1.kept p2 k2);have K2:Hid (Kept Z wx w2):=Zh (K1.trans (k2.less (fun k hk=> .inl (.inl hk))));have F:=Zh (z.kept k2 GZ);have a4:=Zh a3;have a5:=Zh a2;clear CA p2 k2 a3 a2 H1 K1 z;by_cases L:m1=0
 ·subst L;rw[show QA 0= .nilIface from rfl];obtain rfl:s1=m.1:=a5 rfl;clear a5 a4;have p3:=E.zA.c3;have V:IntKind.i64.wrap ((k:Int)+1)=(k:Int)+1:=by
   simp[IntKind.wrap,IntKind.bits,IntKind.signed];omega
  have CD:=Zh (eX gb k r c (B:=w.heap.size) (l:=left) w2 LL dA E.own);have f3:∀J,iA (fun i=>i=gb) w2 J->J.frozen? (cA q 3)=false/\J.cell? (cA q 3)=some (.slice (some (cA gb 0)) (k+1+r) c):=fun J hb=>by
   have ak:gb≠q:=by
    rintro rfl;obtain⟨d,hd⟩:=E.own.ty (g:=gb) rfl;have n:=E.zA;unfold MD at n;exact WA hd n pA rfl
   have n:MD J q g p par beh (.slice (some (cA gb 0)) (k+1+r) c):=(hb.block q E.zA.lt (fun e=>ak e.symm)).trans E.zA;exact⟨n.fr 3,n.c3⟩
  have F3:=Zh f3;clear f3;go_upto_region 6 with(go_at_call 237;refine CD.mono ?_;rintro e J ⟨rfl,o5,b5⟩;have PC:=Zh (ov E o5 b5);obtain⟨g3,g4⟩:=F3 J b5;have a6:Hid (rD J b t):=Zh ((b5.block b F.lt (fun e=>by
   subst e;obtain⟨d,hd⟩:=E.own.ty (g:=b) rfl;have n:=F.out;unfold rD at n;exact WA hd n pA rfl)).trans F);clear o5 b5)
  clear CD F3 g3 g4 p3 V;have W:Hid (rD (J.setCell (cA q 3) (.slice (some (cA gb 0)) (k+r) c)) b t):=Zh (by
   have al:b≠q:=by
    rintro rfl;have n:=E.zA;unfold MD at n;have M:=F.out;unfold rD at M;exact WA n M pA rfl
   exact(Below.heap_setCell _ _ _ _ al).trans a6)
  generalize J.setCell (cA q 3) (.slice (some (cA gb 0)) (k+r) c)=w6 at PC W|-;rw[<-M2.out] at PC;have H6:=Zh PC.1;have K6:Hid (Kept Z wx w6):=Zh (K2.trans (PC.2.less (fun k hk=> .inl hk)));clear PC a6 F E K2 GZ;have CN:=Zh (kV id H6.pw MW);have p1:=H6.zA.c1;go_upto_region 7 with(go_at_call 18;refine CN.mono ?_;rintro e w7 ⟨nd,AV,nV,cV,AK,nK,cK,rfl,a7,am,an,a8,a9,N⟩);have FD:Hid (find m.1.1.l id=some nd):=Zh (a7 MH);have B7:Hid (fA w6 (w7.alloc (.cells #[aA nd.id,aA nd.par,bA nd.tag,bA nd.txt,bA nd.key,.slice AV nV cV,.slice AK nK cK,aA nd.note] 53))):=Zh (N.alloc N.size _);have u:Hid (lB (w7.alloc (.cells #[aA nd.id,aA nd.par,bA nd.tag,bA nd.txt,bA nd.key,.slice AV nV cV,.slice AK nK cK,aA nd.note] 53)) w7.heap.size nd AV nV cV AK nK cK):=Zh (lB.new w7 nd AV nV cV AK nK cK);have AT:=Zh (a8.below (Ze.alloc Zl (.cells #[aA nd.id,aA nd.par,bA nd.tag,bA nd.txt,bA nd.key,.slice AV nV cV,.slice AK nK cK,aA nd.note] 53)));have X:=Zh (a9.alloc (.cells #[aA nd.id,aA nd.par,bA nd.tag,bA nd.txt,bA nd.key,.slice AV nV cV,.slice AK nK cK,aA nd.note] 53));have Y:=N.size;clear CN p1 a7 am an a8 a9 N;obtain⟨gn,aa⟩:=DA w7.heap.size;rw[aa] at u Y|-;have GN:Hid (w6.heap.size<=gn):=Zh Y;generalize w7.alloc (.cells #[aA nd.id,aA nd.par,bA nd.tag,bA nd.txt,bA nd.key,.slice AV nV cV,.slice AK nK cK,aA nd.note] 53)=w8 at B7 u AT X|-;clear aa Y;have a:=Zh (W.below B7);have H8:Hid (Pl w B g p x vd (fun i=>Z i\/i=b\/i=gn\/(Value.slice AK nK cK).ownBlock=some i) q par beh (.slice (some (cA gb 0)) (k+r) c) m.2 m.1 w8):=Zh (H6.box B7 (fun i G=>by
   rcases G with G|G|G|G
   ·exact .inl (.inl G)
   ·exact .inl (.inr G)
   ·subst G;exact .inr ⟨GN,u.lt⟩
   ·exact .inr (X.lt G)))
  have K8:Hid (Kept Z wx w8):=Zh (K6.trans (Kept.oB B7));have o:Hid (∀k,Z k->(fun i=>Z i\/i=b\/i=gn\/(Value.slice AK nK cK).ownBlock=some i) k):=Zh (fun k hk=> .inl hk);have a0:Hid (nd.id=id):=Zh (kG FD).2;clear W H6 K6 B7 GN LZ;have e0:=a.c0;by_cases O:t.kind=1
  ·have e1:=a.c1;have e2:=a.c2;have e3:=a.c3;have e4:=a.c4;have e5:=a.c5;have d0:=u.c0;have d1:=u.c1;have d2:=u.c2;have d3:=u.c3;have d4:=u.c4;have d5:=u.c5;have d6:=u.c6;have d7:=u.c7;have n:(t.kind==1)=true:=(by rw[O];rfl);have CU:=Zh (Zo t HK f HF O H8 MW HR HW HC (by rw[aj];exact hn) dA (nd:=nd) (AV:=AV) (AK:=AK) (nV:=nV) (cV:=cV) (nK:=nK) (cK:=cK) (by rw[a0.out];exact FD) AT X (fun i G=> .inr (.inr (.inr G))));have RS:Hid (res=(cF (jF f) (er t) nd.id m.1,m.2)):=Zh (by rw[<-j.out,if_neg dA,a0.out]);have RO:Hid (okp->NH (okF f) (er t) nd.id m.1):=Zh (fun e=>by rw[a0.out];exact(D e).2 dA);clear O;go_wp2_with fail;refine CU.mono ?_;rintro e w9 ⟨m9,s9,rfl,d9⟩;have D9:=Zh d9;clear d9;obtain⟨ev,I⟩:=DA (QA m9);rw[I];go_wp2_with fail;go_ret;rw[<-I,RS.out];obtain⟨x1,x2,x3,x4⟩:=D9;exact⟨m9,_,m.2,s9,rfl,(H8.kept x1 x2).unbox o,K8.trans (x2.less (fun k hk=> .inl (o k hk))),fun e=>by rw[x3 e],fun ok=>x4 (RO ok)⟩
  ·have n:(t.kind==1)=false:=beq_eq_false_iff_ne.2 O;by_cases P:t.kind=2
   ·have M:(t.kind==2)=true:=(by rw[P];rfl);have e3:=a.c3;have d3:=u.c3;have ab:Hid ((sC m.1.1.l id).txt=nd.txt):=Zh (by unfold sC;rw[FD.out];rfl);have ET:Hid ((er t).txt=t.txt):=Zh (tu t);have TK:=Zh (eY (rec:=jF f) (id:=id) (s:=m.1) (x:=er t) (by rw[KD.out];exact P));rw[ab.out,ET.out] at TK;by_cases ht:nd.txt.toList=t.txt.toList
    ·have ao:(nd.txt.toList==t.txt.toList)=true:=beq_iff_eq.2 ht;rw[if_neg (by rw[ht];simp)] at TK;have RS:Hid (res=(m.1,m.2)):=Zh (by rw[<-j.out,if_neg dA,TK.out]);clear ht O P;go_wp2_with fail;go_ret;rw[RS.out];exact⟨0,_,m.2,m.1,rfl,H8.unbox o,K8,fun _=>rfl,fun _=>rfl⟩
    ·have ao:(nd.txt.toList==t.txt.toList)=false:=beq_eq_false_iff_ne.2 ht;rw[if_pos ht] at TK;have RS:Hid (res=(LA m.1 (AE id t.txt),m.2)):=Zh (by rw[<-j.out,if_neg dA,TK.out]);have RO:Hid (okp->vD m.1 (AE id t.txt)):=Zh (fun e=>by
      have:=((D e).2 dA).1 (by rw[KD.out];exact P) (by rw[ab.out,ET.out];exact ht);rwa[ET.out] at this)
     have CT:Hid (∀wz,fA w8 wz->jA 125 _ wz (xI w B g p x vd (eC (fun i=>Z i\/i=b\/i=gn\/(Value.slice AK nK cK).ownBlock=some i) q (.slice (some (cA gb 0)) (k+r) c)) m.1 (AE id t.txt) w8)):=Zh (fun wz hb=>(Ys id t.txt (H8.pw.on hb) MW dA dA SZ.txt).mono (fun e w' d=>d.on hb));have p0:=H8.zA.c0;obtain⟨m3,ac⟩:=DA ((YA m.1.1 (AE id t.txt)).1);have ad:=Zh ac;clear ac ht O P;go_upto_region 10 with fail;go_region_held3 (fun w'=>w'.cell? (cA q 0)=some (lA g)/\w'.cell? (cA b 3)=some (bA t.txt)) (first|go_keep|exact K9) ((first
      |(go_at_call 125;refine(CT _ VG).mono ?_;rintro e w9 ⟨rfl,p9,k9⟩;rw[ad.out];have H9:=Zh (H8.kept p9 k9);have ap:Hid (Kept Z wx w9):=Zh (K8.trans (k9.less (fun k hk=> .inl (o k hk))));have K9:=And.intro H9.zA.c0 (a.kept k9 (.inl (.inr (.inl rfl)))).c3;clear p9 k9;obtain⟨ev,I⟩:=DA (QA m3);rw[I])
      |fail))
     all_goals
      go_wp2_with fail;go_ret;rw[<-I,RS.out];exact⟨m3,_,m.2,_,rfl,H9.unbox o,ap,fun _=>rfl,fun ok=>ad.symm.trans (RO ok)⟩
   ·have M:(t.kind==2)=false:=beq_eq_false_iff_ne.2 P;have RS:Hid (res=m):=Zh (by
     rw[<-j.out];by_cases h3:t.kind=3
     ·rw[if_pos h3]
     ·rw[if_neg h3,D4 (by rw[KD.out];exact O) (by rw[KD.out];exact P)])
    clear O P;go_wp2_with fail;go_ret;rw[RS.out];exact⟨0,_,m.2,m.1,rfl,H8.unbox o,K8,fun _=>rfl,fun _=>rfl⟩
 ·rw[YG L];go_wp2_with fail;go_ret;exact⟨m1,_,left,s1,by rw[YG L];rfl,E.unbox LZ,K2,fun e=>absurd e L,fun ok=>a4 (D ok).1⟩
variable{w wx w':World}{B g p q:Nat}{x:Dx}{vd v:Value}{Z:Nat->Prop}{s:Sg}{par beh:Int}{left:List Int}
theorem zF.unbox{Z':Nat->Prop}{r:Sg×List Int}{ok:Prop}{e:Ending}{wz:World}(d:zF w B g p x vd Z' q par beh r ok wz e w')(k:Kept Z wx wz)(hZ:∀k,Z k->Z' k):zF w B g p x vd Z q par beh r ok wx e w':=by
 obtain⟨c,b,a,f,i,j,l,m,n⟩:=d;exact⟨c,b,a,f,i,j.unbox hZ,k.trans (l.less hZ),m,n⟩
theorem zF.jK{r:Sg×List Int}{ok ok':Prop}{e:Ending}(d:zF w B g p x vd Z q par beh r ok wx e w')(h:ok'->ok):zF w B g p x vd Z q par beh r ok' wx e w':=by
 obtain⟨c,b,a,f,i,j,k,l,m⟩:=d;exact⟨c,b,a,f,i,j,k,l,fun n=>m (h n)⟩
theorem zF.done{s1:Sg}{ok:Prop}{e:Ending}{wz:World}(h:Pl w B g p x vd Z q par beh v left s wz)(d:LC w B g p x vd (eC Z q v) s1 ok wz e w'):zF w B g p x vd Z q par beh (s1,left) ok wz e w':=by
 obtain⟨c,b,f,i,a,j,k⟩:=d;exact⟨c,v,left,b,f,h.kept i a,a.out,fun e=>by rw[j e],k⟩
theorem Bt(h:Pl w B g p x vd Z q par beh v left s wx):Pl w B g p x vd Z q par beh (tA) [] s (wx.setCell (cA q 3) (tA))/\Kept Z wx (wx.setCell (cA q 3) (tA)):=by
 have b:=h.zA;unfold MD at b;have c:iA (fun i=>i=q) wx (wx.setCell (cA q 3) (tA)):=iA.setCell (S:=fun i=>i=q) (p:=(cA q 3)) (iA.refl _ _) (fun _=>rfl) _;have d:vC wx (fun i=>i=q):=fun i f m a j=>by
  subst a;exact WA b j pA rfl
 refine⟨⟨(h.pw.JS c (fun i a=>by subst a;exact h.qn) (fun i a _=>by subst a;exact .inr (.inl rfl)) d).less (fun i a=>?_),?_,Kind.Own.nil kI _ _,h.qn,h.qz,fun k l=>by cases l⟩,⟨_,c,fun i a e=>by subst e;exact h.qz a,d⟩⟩
 ·rcases a with a|a|a
  ·exact .inl a
  ·exact .inr (.inl a)
  ·cases a
 ·unfold MD;exact heap_set b 3 _
theorem gp(t:WV)(hk:kJ t.kids)(f:Nat)(hf:dW (er t)<=f)(h4:t.kind≠4)(h:Pl w B g p x vd Z q par beh v left s wx)(hwf:WF s.1)(hr:∀w',iA (EF p x g vd) w w'->oD kW w' w'.heap.size t)(hw:tC (er t))(hc:pF (er t)<=1000)(hn:s.1.n+(ZF (er t):Nat)<=90000)(hl:s.2.length+2000*ZF (er t)+2000<=800000)
 {id:Int} (h0:id≠0) (hid:id∈left) (nD:left.length<=250) (hmw:WF (aD s par left beh id (left.idxOf id)).1.1) (hmh:nA (aD s par left beh id (left.idxOf id)).1.1.l id=true)
 {res:Sg×List Int} {okp:Prop} (hres:(if t.kind=3 then aD s par left beh id (left.idxOf id) else(cF (jF f) (er t) id (aD s par left beh id (left.idxOf id)).1,(aD s par left beh id (left.idxOf id)).2))=res)
 (hokp:okp->(YJ s par left beh id (left.idxOf id)/\(t.kind≠3->NH (okF f) (er t) id (aD s par left beh id (left.idxOf id)).1))):
 jA 174 #[lA q,.agg #[aA t.kind,bA t.tag,bA t.key,bA t.txt,.slice t.sa.A t.sa.n t.sa.c,.slice t.sk.A t.sk.n t.sk.c],aA id] wx (zF w B g p x vd Z q par beh res okp wx):=by
 have a:Hid (rD (wx.alloc (.cells #[aA t.kind,bA t.tag,bA t.key,bA t.txt,.slice t.sa.A t.sa.n t.sa.c,.slice t.sk.A t.sk.n t.sk.c] 268)) wx.heap.size t):=Zh (rD.new wx t);have i:Hid (fA wx (wx.alloc (.cells #[aA t.kind,bA t.tag,bA t.key,bA t.txt,.slice t.sa.A t.sa.n t.sa.c,.slice t.sk.A t.sk.n t.sk.c] 268))):=Zh (Zb _ _);have H:=Zh h;have o:Hid (∀(n:Nat->Prop) (b:World),Pl w B g p x vd n q par beh v left s b->jA 204 #[lA q,.agg #[aA t.kind,bA t.tag,bA t.key,bA t.txt,.slice t.sa.A t.sa.n t.sa.c,.slice t.sk.A t.sk.n t.sk.c],aA id] b (zF w B g p x vd n q par beh res okp b)):=Zh (fun n b C=>by
  have:=uk t hk f hf h4 C hwf hr hw hc hn hl hid nD hmw hmh;rw[hres] at this;exact this.mono (fun e w' d=>d.jK hokp))
 have M:(id != 0)=true:=(by simpa using h0);clear h hk hf h4 hwf hr hw hc hn hl hid nD hmw hmh hres hokp h0;go_enter func174,ntmps174;go_upto_region 1 with fail;generalize wx.alloc (.cells #[aA t.kind,bA t.tag,bA t.key,bA t.txt,.slice t.sa.A t.sa.n t.sa.c,.slice t.sk.A t.sk.n t.sk.c] 268)=b at a i|-;obtain⟨m,c⟩:=DA wx.heap.size;have r:Hid (wx.heap.size<=m):=Zh dA;have u:Hid (m<b.heap.size):=Zh (by rw[<-c];exact a.lt);rw[c] at a|-;clear c;have D:Hid (Pl w B g p x vd (fun k=>Z k\/k=m) q par beh v left s b):=Zh (H.box i (fun k hk=>hk.imp (fun e=>e) (fun e=>by subst e;exact⟨r,u⟩)));have E:Hid (Kept Z wx b):=Zh (Kept.oB i);have F:Hid (Kept (eC Z q v) wx b):=Zh (Kept.oB i);have G:Hid (∀k,Z k->(fun k=>Z k\/k=m) k):=Zh (fun k hk=> .inl hk);have e0:=a.c0;clear i u r H;have N:=a.c1;have O:=a.c2;have P:=a.c3;have Q:=a.c4;have R:=a.c5;have y:=Zh (o _ _ D);clear o;go_wp2_with fail;refine y.mono ?_;rintro e S ⟨z,I,J,K,rfl,A⟩;have L:=Zh A;clear A y;obtain⟨ev,j⟩:=DA (QA z);rw[j];go_wp2_with fail;go_ret;rw[<-j];exact zF.unbox (wz:=b) ⟨z,I,J,K,rfl,L⟩ E G
theorem Ct(t:WV)(hk:kJ t.kids)(f:Nat)(hf:dW (er t)<=f)(h:Pl w B g p x vd Z q par beh v left s wx)(hwf:WF s.1)(hr:∀w',iA (EF p x g vd) w w'->oD kW w' w'.heap.size t)(hw:tC (er t))(hc:pF (er t)<=1000)(hn:s.1.n+(ZF (er t):Nat)<=90000)(hl:s.2.length+2000*ZF (er t)+2000<=800000)
 {res:Sg×List Int} {okp:Prop} (hres:(if t.kind=4 then(s,[]) else if t.kind=3 then(s,left) else(oF (jF f) par (vB left beh) (er t) s,left))=res)
 (hokp:okp->t.kind≠4->t.kind≠3->tJ (okF f) par (vB left beh) (er t) s):
 jA 174 #[lA q,.agg #[aA t.kind,bA t.tag,bA t.key,bA t.txt,.slice t.sa.A t.sa.n t.sa.c,.slice t.sk.A t.sk.n t.sk.c],aA 0] wx (zF w B g p x vd Z q par beh res okp wx):=by
 have b:Hid (rD (wx.alloc (.cells #[aA t.kind,bA t.tag,bA t.key,bA t.txt,.slice t.sa.A t.sa.n t.sa.c,.slice t.sk.A t.sk.n t.sk.c] 268)) wx.heap.size t):=Zh (rD.new wx t);have m:Hid (fA wx (wx.alloc (.cells #[aA t.kind,bA t.tag,bA t.key,bA t.txt,.slice t.sa.A t.sa.n t.sa.c,.slice t.sk.A t.sk.n t.sk.c] 268))):=Zh (Zb _ _);have H:=Zh h;have l:(er t).kind=t.kind:=(by rw[aF];rfl);have A:1<=ZF (er t):=(by rw[nN];omega);rcases zU hw with j|j|j|j
 ·rw[l] at j;have a:(oF (jF f) par (vB left beh) (er t) s,left)=res:=(by rw[<-hres,if_neg dA,if_neg dA]);have J:Hid (∀(E:Nat->Prop) (c:World),Pl w B g p x vd E q par beh v left s c->jA 205 #[lA q,.agg #[aA t.kind,bA t.tag,bA t.key,bA t.txt,.slice t.sa.A t.sa.n t.sa.c,.slice t.sk.A t.sk.n t.sk.c]] c (zF w B g p x vd E q par beh res okp c)):=Zh (fun E c K=>by
   have:=yk t hk f hf j K hwf hr hw hc hn hl;rw[<-a];exact this.mono (fun e w' d=>(zF.done K d).jK (fun e=>hokp e dA dA)))
  have T:(t.kind==1)=true:=(by rw[j];rfl);clear h hk hf hwf hr hw hc hn hl hres a hokp l A j;go_enter func174,ntmps174;go_upto_region 1 with fail;generalize wx.alloc (.cells #[aA t.kind,bA t.tag,bA t.key,bA t.txt,.slice t.sa.A t.sa.n t.sa.c,.slice t.sk.A t.sk.n t.sk.c] 268)=c at b m|-;obtain⟨n,i⟩:=DA wx.heap.size;have o:Hid (wx.heap.size<=n):=Zh dA;have r:Hid (n<c.heap.size):=Zh (by rw[<-i];exact b.lt);rw[i] at b|-;clear i;have C:Hid (Pl w B g p x vd (fun k=>Z k\/k=n) q par beh v left s c):=Zh (H.box m (fun k hk=>hk.imp (fun e=>e) (fun e=>by subst e;exact⟨o,r⟩)));have F:Hid (Kept Z wx c):=Zh (Kept.oB m);have G:Hid (Kept (eC Z q v) wx c):=Zh (Kept.oB m);have I:Hid (∀k,Z k->(fun k=>Z k\/k=n) k):=Zh (fun k hk=> .inl hk);have e0:=b.c0;clear m r o H;have j:=b.c1;have e2:=b.c2;have e3:=b.c3;have e4:=b.c4;have e5:=b.c5;have L:=Zh (J _ _ C);clear J;go_wp2_with fail;refine L.mono ?_;rintro e w9 ⟨M,U,V,W,rfl,N⟩;have X:=Zh N;clear N L;obtain⟨ev,u⟩:=DA (QA M);rw[u];go_wp2_with fail;go_ret;rw[<-u];exact zF.unbox (wz:=c) ⟨M,U,V,W,rfl,X⟩ F I
 ·rw[l] at j;have a:(oF (jF f) par (vB left beh) (er t) s,left)=res:=(by rw[<-hres,if_neg dA,if_neg dA]);have O:=eR hw (by rw[l];exact j);have y:t.tag=⟨#[]⟩/\t.key=⟨#[]⟩:=by
   have:=Xo hw (by rw[l];exact j);rw[aF] at this;exact this
  have P:P3.TC t.attrs=[]:=by
   have:=O.2.2;rw[QL] at this;rw[this];rfl
  have D:oF (jF f) par (vB left beh) (er t) s=LA (LA s (sB (s.1.n+1) ⟨#[]⟩ t.txt ⟨#[]⟩)) (LB (s.1.n+1) par (vB left beh)):=by
   rw[WN (by rw[l];omega),Ga P,Fa,y.1,y.2]
  have Q:=(jS hw).txt;have J:Hid (∀(E:Nat->Prop) (c:World),Pl w B g p x vd E q par beh v left s c->jA 206 #[lA q,.agg #[aA 0,aA 0,aA 0,aA 0,oA,bA t.txt,oA,tA]] c (zF w B g p x vd E q par beh res okp c)):=Zh (fun E c K=>by
   have:=N8 ⟨#[]⟩ t.txt ⟨#[]⟩ K hwf dA dA rH Q rH;rw[<-a,D];exact this.mono (fun e w' d=>(zF.done K d).jK (fun e=>by
    obtain⟨R,S,_,_⟩:=hokp e dA dA;rw[aF] at R S;simp only[PW.tag,PW.txt,PW.key] at R S;rw[y.1,y.2] at R S;exact⟨R,S⟩)))
  have T:(t.kind==1)=false:=(by rw[j];rfl);have Y:(t.kind==2)=true:=(by rw[j];rfl);clear h hk hf hwf hr hw hc hn hl hres a hokp l A j O y P D Q;go_enter func174,ntmps174;go_upto_region 1 with fail;generalize wx.alloc (.cells #[aA t.kind,bA t.tag,bA t.key,bA t.txt,.slice t.sa.A t.sa.n t.sa.c,.slice t.sk.A t.sk.n t.sk.c] 268)=c at b m|-;obtain⟨n,i⟩:=DA wx.heap.size;have o:Hid (wx.heap.size<=n):=Zh dA;have r:Hid (n<c.heap.size):=Zh (by rw[<-i];exact b.lt);rw[i] at b|-;clear i;have C:Hid (Pl w B g p x vd (fun k=>Z k\/k=n) q par beh v left s c):=Zh (H.box m (fun k hk=>hk.imp (fun e=>e) (fun e=>by subst e;exact⟨o,r⟩)));have F:Hid (Kept Z wx c):=Zh (Kept.oB m);have G:Hid (Kept (eC Z q v) wx c):=Zh (Kept.oB m);have I:Hid (∀k,Z k->(fun k=>Z k\/k=n) k):=Zh (fun k hk=> .inl hk);have e0:=b.c0;clear m r o H;have e3:=b.c3;have L:=Zh (J _ _ C);clear J;go_wp2_with fail;refine L.mono ?_;rintro e w9 ⟨M,U,V,W,rfl,N⟩;have X:=Zh N;clear N L;obtain⟨ev,u⟩:=DA (QA M);rw[u];go_wp2_with fail;go_ret;rw[<-u];exact zF.unbox (wz:=c) ⟨M,U,V,W,rfl,X⟩ F I
 ·rw[l] at j;have a:(s,left)=res:=(by rw[<-hres,if_neg dA,if_pos dA]);have z:=Zh a;have T:(t.kind==1)=false:=(by rw[j];rfl);have Y:(t.kind==2)=false:=(by rw[j];rfl);have q2:(t.kind==4)=false:=(by rw[j];rfl);clear h hk hf hwf hr hw hc hn hl hres a hokp l A j;go_enter func174,ntmps174;go_upto_region 1 with fail;generalize wx.alloc (.cells #[aA t.kind,bA t.tag,bA t.key,bA t.txt,.slice t.sa.A t.sa.n t.sa.c,.slice t.sk.A t.sk.n t.sk.c] 268)=c at b m|-;obtain⟨n,i⟩:=DA wx.heap.size;have o:Hid (wx.heap.size<=n):=Zh dA;have r:Hid (n<c.heap.size):=Zh (by rw[<-i];exact b.lt);rw[i] at b|-;clear i;have C:Hid (Pl w B g p x vd (fun k=>Z k\/k=n) q par beh v left s c):=Zh (H.box m (fun k hk=>hk.imp (fun e=>e) (fun e=>by subst e;exact⟨o,r⟩)));have F:Hid (Kept Z wx c):=Zh (Kept.oB m);have G:Hid (Kept (eC Z q v) wx c):=Zh (Kept.oB m);have I:Hid (∀k,Z k->(fun k=>Z k\/k=n) k):=Zh (fun k hk=> .inl hk);have e0:=b.c0;clear m r o H;go_wp2_with fail;go_ret;exact zF.unbox (wz:=c) ⟨0,v,left,s,rfl,C,Kept.refl _ _,fun _=>z,fun _=>rfl⟩ F I
 ·rw[l] at j;have a:(s,[])=res:=(by rw[<-hres,if_pos dA]);have z:=Zh a;have T:(t.kind==1)=false:=(by rw[j];rfl);have Y:(t.kind==2)=false:=(by rw[j];rfl);have q2:(t.kind==4)=true:=(by rw[j];rfl);clear h hk hf hwf hr hw hc hn hl hres a hokp l A j;go_enter func174,ntmps174;go_upto_region 1 with fail;generalize wx.alloc (.cells #[aA t.kind,bA t.tag,bA t.key,bA t.txt,.slice t.sa.A t.sa.n t.sa.c,.slice t.sk.A t.sk.n t.sk.c] 268)=c at b m|-;obtain⟨n,i⟩:=DA wx.heap.size;have o:Hid (wx.heap.size<=n):=Zh dA;have r:Hid (n<c.heap.size):=Zh (by rw[<-i];exact b.lt);rw[i] at b|-;clear i;have C:Hid (Pl w B g p x vd (fun k=>Z k\/k=n) q par beh v left s c):=Zh (H.box m (fun k hk=>hk.imp (fun e=>e) (fun e=>by subst e;exact⟨o,r⟩)));have F:Hid (Kept Z wx c):=Zh (Kept.oB m);have G:Hid (Kept (eC Z q v) wx c):=Zh (Kept.oB m);have I:Hid (∀k,Z k->(fun k=>Z k\/k=n) k):=Zh (fun k hk=> .inl hk);have e0:=b.c0;clear m r o H;have f3:=C.zA.fr 3;have c3:=C.zA.c3;have PN:=Zh (Bt C);go_wp2_with fail;go_ret;exact zF.unbox (wz:=c) ⟨0,_,[],s,rfl,PN.1,PN.2,fun _=>z,fun _=>rfl⟩ F I
def iy(w:World)(l:List Nd)(ids:List Int)(n:Nat)(s5 s12:Value)(wr:World):Prop:=∃(k:Nat) (A1:vA) (n1 c1:Nat),k<=n/\s12 = aA k/\s5= .slice A1 n1 c1/\Hid (kO.Own wr w.heap.size (.slice A1 n1 c1) ((ids.take k).map (QB l)))/\Hid (fA w wr)
theorem Bk{l:List Nd}{ids:List Int}{k:Nat}(hk:k<ids.length):(ids.take (k+1)).map (QB l)=(ids.take k).map (QB l)++[QB l ids[k]]:=by
 rw[List.take_succ_eq_append_getElem hk,List.map_append];rfl
theorem qv{l:List Nd}{i:Int}{nd:Nd}(h1:nA l i=true->find l i=some nd)(h2:nA l i=false->nd=⟨0,0,⟨#[]⟩,⟨#[]⟩,⟨#[]⟩,[],[],0⟩):QB l i=⟨nd.tag,nd.key⟩:=by
 unfold QB;cases hh:nA l i with
 |true=>rw[h1 hh]
 |false=>
  rw[h2 hh];unfold nA at hh;cases hf:find l i with
  |none=>rfl
  |some z=>rw[hf] at hh;cases hh
theorem Ck(ids:List Int)(A:vA)(n c:Nat)(h:Pw w B g p x vd Z s wx)(hwf:WF s.1)(hh:kI.AA wx wx.heap.size A ids)(hn:ids.length=n)(nD:n<=300):
 jA 173 #[lA p,.slice A n c] wx fun e w'=>∃A1 n1 c1,e= .returned (.slice A1 n1 c1)/\kO.Own w' wx.heap.size (.slice A1 n1 c1) (ids.map (QB s.1.l))/\fA wx w':=by
 have H:=Zh h;have HH:=Zh hh;have X:=Zh hn;have L:=Zh hwf;clear h hh hn hwf;go_enter func173,ntmps173;go_wp2_with fail;go_loopw [5,12] (fun s5 r wr=>iy wx s.1.l ids n s5 r wr) (fun _ r _=>n-(intOf r).toNat)
 case atStart=>exact⟨0,none,0,0,by omega,rfl,rfl,Zh (Kind.Own.nil kO wx _),Zh Ze⟩
 case round=>
  obtain⟨k,A1,n1,c1,Y,rfl,rfl,K,j⟩:=hrel;by_cases M:k<n
  ·have t:k<ids.length:=(by rw[X.out];exact M);obtain⟨b,o,rfl,hb,g0⟩:=yE (HH.on j) t;have N:=Zh (Bk (l:=s.1.l) t);have O:=Zh (kV ids[k] (H.on j) L);have NL:Hid (((ids.take k).map (QB s.1.l)).length<=300):=Zh (by rw[List.length_map,List.length_take];omega);have P:=j.size;clear hb;generalize ids[k]=i at g0 O N;clear t;go_upto_region 6 with(go_at_call 18;refine O.mono ?_;rintro e u ⟨a,y,z,C,D,E,F,rfl,G,I,Q,R,S,q⟩);have EO:=qv G I;rw[EO] at N;have T:Hid (fA wx (u.alloc (.cells (bB a y z C D E F) 53))):=Zh ((j.trans (q.mono j.size)).alloc (j.trans (q.mono j.size)).size _);have J:=Zh (lB.new u a y z C D E F);have U:=Zh ((K.below q Zl).alloc (.cells (bB a y z C D E F) 53));clear O K G I Q R S q EO j P g0;generalize u.heap.size=gn at J|-;generalize u.alloc (.cells (bB a y z C D E F) 53)=w2 at T J U|-;have d2:=J.c2;have d4:=J.c4;have V:=T.size;clear J;go_wp2_with (at_builtin;refine kO.QF rfl _ _ rfl (v:=.slice A1 n1 c1) (l:=(ids.take k).map (QB s.1.l)) (m:=[⟨a.tag,a.key⟩]) (B:=wx.heap.size) rfl (U.alloc _) rfl rfl KF (Kind.AA.lit (heap_alloc_new _ _) rfl) (by have:=NL.out;simp;omega) jB ?_;intro v' w5 d f W;obtain⟨A5,n5,c5,rfl,e1,e2,e3,e4,e5⟩:=d.slice;have B5:Hid (fA wx w5):=Zh ((T.alloc V _).grown f jB (fun k Y=>(U.lt Y).1));have O5:Hid (kO.Own w5 wx.heap.size (.slice A5 n5 c5) ((ids.take (k+1)).map (QB s.1.l))):=Zh (by rw[N.out];exact d);clear d f W e1 e2 e3 e4 e5);go_roundw
   case rel=>exact⟨k+1,A5,n5,c5,by omega,by go_num,rfl,O5,B5⟩
   case measure=>simp[intOf];omega
  ·obtain rfl:k=n:=dA
   have OU:Hid (kO.Own wr wx.heap.size (.slice A1 n1 c1) (ids.map (QB s.1.l))):=Zh (by have:=K.out;rwa[List.take_of_length_le (by rw[X.out];exact Zl)] at this);clear K;go_wp2_with fail;go_ret;exact⟨A1,n1,c1,rfl,OU,j⟩
def OD(f:Nat)(par beh:Int)(ids:List Int)(s:Sg)(ts:List WV)(i:Nat):Sg×List Int:=oC (jF f) par beh ids (ids.map (QB s.1.l)) (yA ts) s i
def uG(ids:List Int)(s:Sg)(ts:List WV):List Int:=(foldM (ids.map (QB s.1.l)) (yA ts)).take
theorem FI(ids:List Int)(s:Sg)(ts:List WV):(uG ids s ts).length=ts.length:=by
 unfold uG;rw[take_len,lI]
section
variable{w wx w1:World}{B g p q:Nat}{x:Dx}{vd v:Value}{Z Z':Nat->Prop}{s:Sg}{par beh:Int}{ids:List Int}{A A':vA}{n c n' c':Nat}{ts:List WV}{f i:Nat}
theorem lp(hi:i<ts.length):OD f par beh ids s ts (i+1)=eF (jF f) par beh ids (er ts[i]) ((uG ids s ts)[i]'(by rw[FI];exact hi)) (OD f par beh ids s ts i):=by
 unfold OD;rw[xK (by rw[lI];exact hi),sS hi];rfl
structure jy(s:Sg)(par:Int)(ids:List Int)(r:Sg×List Int)(t:WV):Prop where
 lv:Lv s par ids r.1
 sub:∀c∈r.2,c∈ids
 len:r.2.length<=200
 num:r.1.1.n+(ZF (er t):Nat)<=90000
 log:r.1.2.length+2000*ZF (er t)+2000<=800000
theorem qp(beh:Int)(pre:lK w B g p x vd Z s wx par ids A n c A' n' c' ts)(hi:i<ts.length):jy s par ids (OD f par beh ids s ts i) ts[i]:=by
 have d:i<(yA ts).length:=(by rw[lI];exact hi);have b:ids.length<=200:=(by rw[pre.len];exact pre.nD);have h:=mV (want:=yA ts) (beh:=beh) (old:=ids.map (QB s.1.l)) (oJ f) pre.wf pre.p0 pre.kids pre.AD FA i dA;have j:=Jb (want:=yA ts) (beh:=beh) (old:=ids.map (QB s.1.l)) (oJ f) (AQ f) pre.wf pre.p0 pre.kids pre.AD b FA i dA;have e:=yb d;rw[sS hi] at e;have a:(OD f par beh ids s ts i).2=OE ids (foldM (ids.map (QB s.1.l)) ((yA ts).take i)).left:=h.left;refine⟨h.lv,fun c k=>?_,?_,?_,?_⟩
 ·rw[a] at k;exact(JH _ _).subset k
 ·rw[a];exact Nat.le_trans (JH _ _).length_le b
 ·exact yw j.1 e pre.num
 ·exact qs j.2 e pre.log
theorem Dt(beh:Int)(pre:lK w B g p x vd Z s wx par ids A n c A' n' c' ts):WF (OD f par beh ids s ts ts.length).1.1/\(OD f par beh ids s ts ts.length).1.1.n<=90000/\(OD f par beh ids s ts ts.length).1.2.length<=800000/\(OD f par beh ids s ts ts.length).2.length<=200:=by
 have b:ids.length<=200:=(by rw[pre.len];exact pre.nD);have h:=mV (want:=yA ts) (beh:=beh) (old:=ids.map (QB s.1.l)) (oJ f) pre.wf pre.p0 pre.kids pre.AD FA ts.length (by rw[lI];exact Zl);have d:=Jb (want:=yA ts) (beh:=beh) (old:=ids.map (QB s.1.l)) (oJ f) (AQ f) pre.wf pre.p0 pre.kids pre.AD b FA ts.length (by rw[lI];exact Zl);have a:(OD f par beh ids s ts ts.length).2=OE ids (foldM (ids.map (QB s.1.l)) ((yA ts).take ts.length)).left:=h.left;have e:(yA ts).take ts.length=yA ts:=(by rw[<-lI,List.take_length]);rw[e] at d;have i:(OD f par beh ids s ts ts.length).1.1.n<=s.1.n+(pC (yA ts):Nat):=d.1;refine⟨h.lv.wf,by have:=pre.num;omega,ss d.2 pre.log,?_⟩;rw[a];exact Nat.le_trans (JH _ _).length_le b
theorem V8(beh:Int)(pre:lK w B g p x vd Z s wx par ids A n c A' n' c' ts)(hi:i<ts.length)(h0:0<=(uG ids s ts)[i]'(by rw[FI];exact hi)):
 ∃(j:Nat) (a:Int),(uG ids s ts)[i]'(by rw[FI];exact hi)=(j:Int)/\ids[j]? = some a/\a∈(OD f par beh ids s ts i).2/\a∈ids/\ts[i].kind≠4:=by
 have d:i<(yA ts).length:=(by rw[lI];exact hi);have h:=mV (want:=yA ts) (beh:=beh) (old:=ids.map (QB s.1.l)) (oJ f) pre.wf pre.p0 pre.kids pre.AD FA i dA;obtain⟨j,a,l,e,m,k⟩:=mN (old:=ids.map (QB s.1.l)) (ids:=ids) FA d h0;refine⟨j,a,l,e,?_,List.mem_of_getElem? e,?_⟩
 ·have b:(OD f par beh ids s ts i).2=OE ids (foldM (ids.map (QB s.1.l)) ((yA ts).take i)).left:=h.left;rw[b];exact cR m e
 ·have o:=sS hi;rw[o,aF] at k;exact k
theorem rv:cC (OD f par beh ids s ts ts.length).2 (OD f par beh ids s ts ts.length).1=uB (f+1) s par ids beh (yA ts):=by
 rw[KJ,lI];rfl
theorem Vw(h:cG (f+1) s par ids beh (yA ts))(hi:i<ts.length):xV (okF f) (jF f) par beh ids (er ts[i]) ((uG ids s ts)[i]'(by rw[FI];exact hi)) (OD f par beh ids s ts i):=by
 have:=h.1 i (by rw[lI];exact hi);rw[sS hi] at this;exact this
theorem sv(h:cG (f+1) s par ids beh (yA ts)):gJ (OD f par beh ids s ts ts.length).2 (OD f par beh ids s ts ts.length).1:=by
 have:=h.2;rw[lI] at this;exact this
def pid(ids:List Int)(t:Int):Int:=if 0<=t then ids.getD t.toNat 0 else 0
theorem Ww{wz:World}(t:Int)(ht:0<=t->t.toNat<ids.length)(hh:kI.AA wz wz.heap.size A ids)(hn:ids.length=n):jA 175 #[.slice A n c,aA t] wz fun e w'=>e= .returned (aA (pid ids t))/\wz=w':=by
 by_cases a:0<=t
 ·have d:=ht a;have f:t=((t.toNat:Nat):Int):=dA;have b:pid ids t=ids[t.toNat]:=by
   unfold pid;rw[if_pos a];simp[List.getD,List.getElem?_eq_getElem d]
  rw[b];have:=Po ids A n c t.toNat wz d hh hn;rwa[<-f] at this
 ·have b:pid ids t=0:=(by unfold pid;rw[if_neg a]);rw[b];exact Ow ids A n c t wz dA
theorem uv(beh:Int)(hk:∀t∈ts,kJ t.kids)(hf:dL (yA ts)<=f)(pre:lK w B g p x vd Z s wx par ids A n c A' n' c' ts)(hi:i<ts.length)(h:Pl w B g p x vd Z' q par beh v (OD f par beh ids s ts i).2 (OD f par beh ids s ts i).1 w1):
 jA 174 #[lA q,.agg (pL ts[i]),aA (pid ids ((uG ids s ts)[i]'(by rw[FI];exact hi)))] w1
  (zF w B g p x vd Z' q par beh (OD f par beh ids s ts (i+1)) (cG (f+1) s par ids beh (yA ts)) w1):=by
 have F:=qp (f:=f) beh pre hi;have d:ts[i]∈ts:=List.getElem_mem hi;have G:=pre.BJ _ d;have H:∀w',iA (EF p x g vd) w w'->oD kW w' w'.heap.size ts[i]:=fun w' M=>(pre.want w' M).ok _ d
 have I:dW (er ts[i])<=f:=Nat.le_trans (eW (mM d)) hf;have J:pF (er ts[i])<=1000:=Nat.le_trans (XU (mM d)) pre.lH;have b:(er ts[i]).kind=ts[i].kind:=(by rw[aF];rfl);have o:cG (f+1) s par ids beh (yA ts)->xV (okF f) (jF f) par beh ids (er ts[i]) ((uG ids s ts)[i]'(by rw[FI];exact hi)) (OD f par beh ids s ts i):=fun e=>Vw e hi
 have r:=lp (f:=f) (par:=par) (beh:=beh) (s:=s) (ids:=ids) hi;have K:=F.len;by_cases l:0<=(uG ids s ts)[i]'(by rw[FI];exact hi)
 ·obtain⟨j,a,z,C,N,u,D⟩:=V8 (f:=f) beh pre hi l;have E:pid ids ((uG ids s ts)[i]'(by rw[FI];exact hi))=a:=by
   unfold pid;rw[if_pos l,AN z C]
  rw[E];have O:par≠0:=by
   rcases pre.p0 with e|e
   ·exact e
   ·rw[e] at u;cases u
  have L:=F.lv.move pre.wf F.sub beh a ((OD f par beh ids s ts i).2.idxOf a) u;refine gp ts[i] (hk _ d) f I D h F.lv.wf H G J F.num F.log (F.lv.wf.tr.jG (F.lv.aB a u).1) N dA L.wf (L.aB a u).1 ?_ ?_
  ·rw[r];by_cases k:ts[i].kind=3
   ·rw[if_pos k,Ri (by rw[b];exact k) z C]
   ·rw[if_neg k,Mg (by rw[b];exact D) (by rw[b];exact k) z C]
  ·intro y;have:=(o y (by rw[b];exact D)).1 l;rw[AN z C,b] at this;exact this
 ·have E:pid ids ((uG ids s ts)[i]'(by rw[FI];exact hi))=0:=by
   unfold pid;rw[if_neg l]
  rw[E];refine Ct ts[i] (hk _ d) f I h F.lv.wf H G J F.num F.log ?_ ?_
  ·rw[r];by_cases m:ts[i].kind=4
   ·rw[if_pos m,Qi (by rw[b];exact m)]
   ·rw[if_neg m];by_cases k:ts[i].kind=3
    ·rw[if_pos k,step_skip (by rw[b];exact k) l]
    ·rw[if_neg k,dm (by rw[b];exact m) (by rw[b];exact k) l]
  ·intro y m k;exact(o y (by rw[b];exact m)).2 l (by rw[b];exact k)
theorem tp{d:D}(hw:WF d)(ids:List Int):∀o∈ids.map (QB d.l),o.tag.size<=maxLen/\o.key.size<=maxLen:=by
 intro o a;obtain⟨i,_,rfl⟩:=List.mem_map.1 a;unfold QB;cases hf:find d.l i with
 |none=>exact⟨by decide,by decide⟩
 |some z=>
  obtain⟨_,b,c⟩:=hw.mO z (kG hf).1;exact⟨by show z.tag.size<=_;unfold maxLen;omega,by show z.key.size<=_;unfold maxLen;omega⟩
end
structure VW(w:World)(B g p:Nat)(x:Dx)(vd:Value)(Z Z':Nat->Prop)(wx:World)(q:Nat)(par beh:Int)(f:Nat)(ids:List Int)(s:Sg)(ts:List WV)(fb:Nat)(RS:Array Value)(TV:Value)(i:Nat)(v:Value)(wr:World):Prop where
 pl:Pl w B g p x vd Z' q par beh v (OD f par beh ids s ts i).2 (OD f par beh ids s ts i).1 wr
 kept:Kept Z wx wr
 res:wr.heap[fb]? = some (.cells RS 263 (0,0))
 tk:kI.Own wr 0 TV (uG ids s ts)
theorem VZ(ts:List WV)(hk:∀t∈ts,kJ t.kids):kJ ts:=by
 intro f hf w B g p x N Z s H par ids A n c beh A' n' c' o;have q1:=qF;have q2:=AF;have l:=Zh o;have ah:=Zh hk;have ai:=Zh hf;have LI:=Zh o.len;have LQ:Hid (ts.length=n'):=Zh (o.want H o.pw.DS).len;have hn:=o.nD;have ap:n'<=1000:=by
  have h1:=uR (yA ts);have h2:=o.lH;have h3:=LQ.out;rw[lI] at h1;omega
 have a6:=Zh (nQ ids A n c H o.len dA (fun e=>⟨o.nil e,by have:=o.nil e;have:=o.cap;omega⟩) (o.ids H (Kept.refl _ _)));clear hk hf o;go_enter func132,ntmps132;go_upto_region 2 with(go_at_call 38;refine a6.mono ?_;rintro e w1 ⟨U,V,X,rfl,o1,b1⟩);have B2:Hid (fA H (w1.alloc (.cells #[lA g,lA p,aA par,.slice U V X,aA beh] 261))):=Zh (b1.alloc b1.size _);have J:Hid (MD (w1.alloc (.cells #[lA g,lA p,aA par,.slice U V X,aA beh] 261)) w1.heap.size g p par beh (.slice U V X)):=Zh (heap_alloc_new w1 _);have O2:=Zh (o1.alloc (.cells #[lA g,lA p,aA par,.slice U V X,aA beh] 261));have a0:=b1.size;clear a6 o1 b1;obtain⟨q,hq⟩:=DA w1.heap.size;rw[hq] at J a0|-;clear hq;generalize w1.alloc (.cells #[lA g,lA p,aA par,.slice U V X,aA beh] 261)=Y at B2 J O2|-;have H2:Hid (Pl w B g p x N Z q par beh (.slice U V X) ids s Y):=Zh (by
  obtain⟨x',aq,ar,k1,_,k3⟩:=l.pw;have aj:=k1.but.size;refine⟨l.pw.below B2 (fun k hk=>?_),J,O2.dE aj,by omega,fun e=>?_,fun k hk e=>?_⟩
  ·rcases hk with e|e|e
   ·exact .inl e
   ·subst e;exact .inr ⟨a0,J.lt⟩
   ·exact .inr (O2.lt e)
  ·have:=(k3 q e).1;omega
  ·have:=(k3 k e).1;have:=(O2.lt hk).1;omega)
 have K2:Hid (Kept Z H Y):=Zh (Kept.oB B2);clear B2 J O2 a0;have CO:=Zh (Ck ids A n c H2.pw l.wf (l.ids Y K2) LI dA);have a7:Hid (∀(w3:World) (A3:vA) (n3 c3:Nat),fA Y w3->kO.Own w3 Y.heap.size (.slice A3 n3 c3) (ids.map (QB s.1.l))->jA 172 #[.slice A3 n3 c3,.slice A' n' c'] w3 (Xd w3 (foldM (ids.map (QB s.1.l)) (yA ts)) (ids.map (QB s.1.l)).length)):=Zh (fun w3 A3 n3 c3 hb ho=>by
  have OA:=vG ho;refine tt _ A3 n3 c3 ts A' n' c' w3 OA.2.2.2.2 (tp l.wf ids) OA.1 (by have:=OA.1;rw[List.length_map,LI.out] at this;omega) (l.want w3 (H2.pw.on hb).DS) (fun t ht=>?_) l.lH;rw[nC] at ht;obtain⟨t',ak,rfl⟩:=List.mem_map.1 ht;exact l.BJ t' ak)
 go_upto_region 3 with(first
  |(go_at_call 173;refine CO.mono ?_;rintro e w3 ⟨A3,n3,c3,rfl,o3,b3⟩)
  |(go_at_call 172;refine(a7 _ _ _ _ b3 o3).mono ?_;rintro e w4 ⟨z,b,d,O,P,Q,R,S,T,rfl,_,b4,o4⟩))
 have BR:Hid (fA Y (w4.alloc (.cells #[.slice z b d,.slice O P Q,.slice R S T] 263))):=Zh ((b3.trans (b4.mono b3.size)).alloc (Nat.le_trans b3.size b4.size) _);have FB:Hid ((w4.alloc (.cells #[.slice z b d,.slice O P Q,.slice R S T] 263)).heap[w4.heap.size]? = some (.cells #[.slice z b d,.slice O P Q,.slice R S T] 263 (0,0))):=Zh (heap_alloc_new w4 _);have TO:=Zh (o4.alloc (.cells #[.slice z b d,.slice O P Q,.slice R S T] 263));have al:=b3.size;have a8:=b4.size;clear CO a7 o3 b3 b4 o4;obtain⟨y,a9⟩:=DA w4.heap.size;rw[a9] at FB a8|-;clear a9;generalize w4.alloc (.cells #[.slice z b d,.slice O P Q,.slice R S T] 263)=w5 at BR FB TO|-;have H5:Hid (Pl w B g p x N (fun k=>Z k\/k=y\/(Value.slice z b d).ownBlock=some k) q par beh (.slice U V X) ids s w5):=Zh (H2.box BR (fun k hk=>by
  rcases hk with e|e|e
  ·exact .inl e
  ·subst e;exact .inr ⟨by omega,JA FB⟩
  ·have:=TO.lt e;exact .inr ⟨by omega,this.2⟩))
 have K5:Hid (Kept Z H w5):=Zh (K2.trans (Kept.oB BR));have a1:Hid (kI.Own w5 0 (.slice z b d) (uG ids s ts)):=Zh (TO.dE (Nat.zero_le _));have TL:Hid (ts.length=b):=Zh (by rw[<-FI ids s ts];exact(vG a1).1);have ST:Hid (VW w B g p x N Z (fun k=>Z k\/k=y\/(Value.slice z b d).ownBlock=some k) H q par beh f ids s ts y #[.slice z b d,.slice O P Q,.slice R S T] (.slice z b d) 0 (.slice U V X) w5):=Zh ⟨H5,K5,FB,a1⟩;have LZ:Hid (∀k,Z k->(fun k=>Z k\/k=y\/(Value.slice z b d).ownBlock=some k) k):=Zh (fun k hk=> .inl hk);clear BR FB TO al a8 H5 K5 a1 H2 K2;go_wp2_with fail;go_loopw [33] (fun a2 wr=>∃(i:Nat) (v:Value),i<=n'/\a2 = aA i/\Hid (VW w B g p x N Z (fun k=>Z k\/k=y\/(Value.slice z b d).ownBlock=some k) H q par beh f ids s ts y #[.slice z b d,.slice O P Q,.slice R S T] (.slice z b d) i v wr)) (fun a2 _=>n'-(intOf a2).toNat)
 case atStart=>exact⟨0,_,by omega,rfl,ST⟩
 case round=>
  clear ST;obtain⟨i,vl,hi,rfl,I⟩:=hrel;by_cases am:i<n'
  ·have G:i<ts.length:=(by rw[LQ.out];exact am);have q5:=(l.want wr I.pl.pw.DS).holds;obtain⟨bq,oq,rfl,an,y0,y1,y2,y3,y4,y5⟩:=pU q5 G;have CL:Hid (∀(Z9:Nat->Prop) (u:World),Pl w B g p x N Z9 q par beh vl (OD f par beh ids s ts i).2 (OD f par beh ids s ts i).1 u->jA 174 _ u (zF w B g p x N Z9 q par beh (OD f par beh ids s ts (i+1)) (cG (f+1) s par ids beh (yA ts)) u)):=Zh (fun Z9 u hz=>uv beh ah ai l G hz);have m:i<(uG ids s ts).length:=(by rw[FI];exact G);have TN:Hid (∀u,kI.AA u u.heap.size A ids->jA 175 #[.slice A n c,aA ((uG ids s ts)[i]'m)] u fun e w'=>e= .returned (aA (pid ids ((uG ids s ts)[i]'m)))/\u=w'):=Zh (fun u hz=>Ww _ (fun h0=>by
    obtain⟨j,a,e1,e2,_⟩:=V8 (f:=f) beh l G h0;rw[e1];have:=(List.getElem?_eq_some_iff.1 e2).1;simpa using this) hz LI)
   obtain⟨r,dt,aa,a3,ab,a4⟩:∃(r dt:Nat) (cur:Array Value),(Value.slice z b d)= .slice (some (cA r 0)) b d/\(Value.slice z b d).ownBlock=some r/\wr.cell? (cA r i)=some (aA ((uG ids s ts)[i]'m)):=by
    obtain⟨b',o',e1,_,e3⟩:=yE (vG I.tk).2.2.2.2 m;rcases I.tk.form with⟨hv,e⟩|⟨gb,cc,cur,hv,ab,_⟩
    ·rw[e] at m;simp at m
    ·injection hv with v1 v2 v3;rw[v1] at e1;injection e1 with e1;injection e1 with u1 u2;subst u1;subst u2;exact⟨gb,0,#[],by rw[v1],ab,by simpa using e3⟩
   clear dt aa;injection a3 with a3;subst a3;have ao:Hid (i<b):=Zh (by rw[<-TL.out];exact G);have au:=Zh (Nat.le_refl i);generalize ts[i]=t at y0 y1 y2 y3 y4 y5 CL;obtain⟨tv,ac⟩:=DA ((uG ids s ts)[i]'m);rw[ac] at TN CL a4;have i1:(0:Int)<=(i:Int):=dA;have i2:(i:Int)<(b:Int):=(IA ao.out);generalize pid ids tv=iv at TN CL;clear q5 an ac m G;go_upto_region 6 with fail;have BX:Hid (fA wr (wr.alloc (.cells #[aA t.kind,bA t.tag,bA t.key,bA t.txt,.slice t.sa.A t.sa.n t.sa.c,.slice t.sk.A t.sk.n t.sk.c] 268))):=Zh (Zb _ _);have WB:Hid (rD (wr.alloc (.cells #[aA t.kind,bA t.tag,bA t.key,bA t.txt,.slice t.sa.A t.sa.n t.sa.c,.slice t.sk.A t.sk.n t.sk.c] 268)) wr.heap.size t):=Zh (rD.new wr t);obtain⟨C,ad⟩:=DA wr.heap.size;have GE:Hid (wr.heap.size<=C):=Zh dA;rw[ad] at WB|-;clear ad y0 y1 y2 y3 y4 y5;generalize wr.alloc (.cells #[aA t.kind,bA t.tag,bA t.key,bA t.txt,.slice t.sa.A t.sa.n t.sa.c,.slice t.sk.A t.sk.n t.sk.c] 268)=W at BX WB|-;have H6:Hid (Pl w B g p x N (fun k=>(Z k\/k=y\/(Value.slice (some (cA r 0)) b d).ownBlock=some k)\/k=C) q par beh vl (OD f par beh ids s ts i).2 (OD f par beh ids s ts i).1 W):=Zh (I.pl.box BX (fun k hk=>hk.imp (fun e=>e) (fun e=>by subst e;exact⟨GE,WB.lt⟩)));have K6:Hid (Kept Z H W):=Zh (I.kept.trans (Kept.oB BX));have F6:Hid (W.heap[y]? = some (.cells #[.slice (some (cA r 0)) b d,.slice O P Q,.slice R S T] 263 (0,0))):=Zh ((BX.block y (JA I.res)).trans I.res);have T6:Hid (kI.Own W 0 (.slice (some (cA r 0)) b d) (uG ids s ts)):=Zh (I.tk.below BX Zl);have X6:Hid (W.cell? (cA r i)=some (aA tv)):=Zh ((BX.cell (I.tk.lt (g:=r) rfl).2).trans a4);clear I BX GE a4;have f0:=iB 0 F6;have x6:=X6.out;have e0:=WB.c0;have e1:=WB.c1;have e2:=WB.c2;have e3:=WB.c3;have e4:=WB.c4;have e5:=WB.c5;have CA:Hid (∀u,fA W u->jA 175 #[.slice A n c,aA tv] u fun e w'=>e= .returned (aA iv)/\u=w'):=Zh (fun u hb=>TN u (l.ids u (K6.trans (Kept.oB hb))));have CY:Hid (∀u,fA W u->jA 174 #[lA q,.agg #[aA t.kind,bA t.tag,bA t.key,bA t.txt,.slice t.sa.A t.sa.n t.sa.c,.slice t.sk.A t.sk.n t.sk.c],aA iv] u (zF w B g p x N (fun k=>(Z k\/k=y\/(Value.slice (some (cA r 0)) b d).ownBlock=some k)\/k=C) q par beh (OD f par beh ids s ts (i+1)) (cG (f+1) s par ids beh (yA ts)) W)):=Zh (fun u hb=>(CL _ u (H6.below hb)).mono (fun e w' ⟨c,v',left',s',h1,h2,h3,h4⟩=>⟨c,v',left',s',h1,h2,(Kept.oB hb).trans h3,h4⟩));clear TN CL;go_region_held3 (fun w'=>w'.cell? (cA y 0)=some (.slice (some (cA r 0)) b d)/\w'.cell? (cA r i)=some (aA tv)/\w'.cell? (cA C 0)=some (aA t.kind)/\w'.cell? (cA C 1)=some (bA t.tag)/\w'.cell? (cA C 2)=some (bA t.key)/\w'.cell? (cA C 3)=some (bA t.txt)/\w'.cell? (cA C 4)=some (.slice t.sa.A t.sa.n t.sa.c)/\w'.cell? (cA C 5)=some (.slice t.sk.A t.sk.n t.sk.c)) (first|go_keep|exact K9) ((first
    |(go_at_call 175;refine PA (CA _ VG) ?_)
    |(go_at_call 174;refine(CY _ VG).mono ?_;rintro e D ⟨m9,v9,l9,s9,rfl,d9⟩;have K:=Zh d9;clear d9;have F:=Zh (WB.kept K.2.1 (.inr rfl));have F9:Hid (D.heap[y]? = some (.cells #[.slice (some (cA r 0)) b d,.slice O P Q,.slice R S T] 263 (0,0))):=Zh ((K.2.1.block (.inl (.inr (.inl rfl))) (JA F6)).trans F6);have K9:D.cell? (cA y 0)=some (.slice (some (cA r 0)) b d)/\D.cell? (cA r i)=some (aA tv)/\D.cell? (cA C 0)=some (aA t.kind)/\D.cell? (cA C 1)=some (bA t.tag)/\D.cell? (cA C 2)=some (bA t.key)/\D.cell? (cA C 3)=some (bA t.txt)/\D.cell? (cA C 4)=some (.slice t.sa.A t.sa.n t.sa.c)/\D.cell? (cA C 5)=some (.slice t.sk.A t.sk.n t.sk.c):=⟨cell_of_row D y 0 _ _ (0,0) F9,(K.2.1.cell (q:=(cA r i)) (.inl (.inr (.inr rfl))) (T6.lt (g:=r) rfl).2).trans X6,F.c0,F.c1,F.c2,F.c3,F.c4,F.c5⟩)
    |fail))
   all_goals
    have T9:Hid (kI.Own D 0 (.slice (some (cA r 0)) b d) (uG ids s ts)):=Zh (K.2.1.own T6 (fun k hk=> .inl (.inr (.inr hk))));have a5:Hid (Kept Z H D):=Zh (K6.trans (K.2.1.less (fun k hk=> .inl (.inl hk))));have P9:Hid (Pl w B g p x N (fun k=>Z k\/k=y\/(Value.slice (some (cA r 0)) b d).ownBlock=some k) q par beh v9 l9 s9 D):=Zh (K.1.unbox (fun k hk=> .inl hk));clear CA CY f0 x6 e0 e1 e2 e3 e4 e5 K9 F K6 H6 F6 T6 X6 WB;by_cases M:m9=0
    ·subst M;rw[show QA 0= .nilIface from rfl];have ES:=K.2.2.1 rfl;have ae:s9=(OD f par beh ids s ts (i+1)).1:=congrArg Prod.fst ES;have af:l9=(OD f par beh ids s ts (i+1)).2:=congrArg Prod.snd ES;rw[ae,af] at P9;have NX:Hid (VW w B g p x N Z (fun k=>Z k\/k=y\/(Value.slice (some (cA r 0)) b d).ownBlock=some k) H q par beh f ids s ts y #[.slice (some (cA r 0)) b d,.slice O P Q,.slice R S T] (.slice (some (cA r 0)) b d) (i+1) v9 D):=Zh ⟨P9,a5,F9,T9⟩;clear ES ae af K P9 a5 F9 T9;go_wp2_with fail;go_roundw
     case rel=>exact⟨i+1,v9,by omega,by go_num,NX⟩
     case measure=>simp[intOf];omega
    ·rw[YG M];go_wp2_with fail;go_ret;have:=LC.no (s1:=uB (f+1) s par ids beh (yA ts)) (ok:=cG (f+1) s par ids beh (yA ts)) M (P9.pw.less (fun k hk=> .inl (.inl hk))) a5 (fun ok=>M (K.2.2.2 ok));rwa[YG M] at this
  ·obtain rfl:i=n':=dA
   have L:=Dt (f:=f) beh l;have E:=Zh (rv (f:=f) (par:=par) (beh:=beh) (ids:=ids) (s:=s) (ts:=ts));have OG:=Zh (fun e=>sv (f:=f) (par:=par) (beh:=beh) (ids:=ids) (s:=s) (ts:=ts) e);rw[LQ.out] at L E OG;obtain⟨l1,l2,l3,l4⟩:=L;have CD:=Zh (Xj I.pl dA l1 dA dA);rw[E.out] at CD;clear l1 l2 l3 l4;go_wp2_with fail;refine CD.mono ?_;rintro e D ⟨m9,s9,rfl,d9⟩;have K:=Zh d9;clear d9 CD;obtain⟨ev,ag⟩:=DA (QA m9);rw[ag];go_wp2_with fail;go_ret;rw[<-ag];obtain⟨x1,x2,x3,x4⟩:=K;exact⟨m9,s9,rfl,x1.less (fun k hk=> .inl (.inl hk)),I.kept.trans (x2.less (fun k hk=> .inl (.inl hk))),x3,fun ok=>x4 (OG ok)⟩
theorem Mh(ts:List WV):kJ ts:=by
 have key:∀t:WV,kJ t.kids:=by
  intro t
  induction t using WV.ind with
  |h kind tag key txt sa attrs sk kids ih=>exact VZ kids ih
 exact VZ ts (fun t _=>key t)
theorem Nh{l:List Nd}{par beh:Int}:PF l par [] beh↔beh∈xA l par++[0]:=by
 unfold PF;constructor
 ·rintro⟨b,a,e,d⟩;rw[e];cases a with
  |nil=>simp[d]
  |cons c r=>simp at d;simp[d]
 ·intro h;rcases List.mem_append.1 h with h|h
  ·obtain⟨b,a,e⟩:=List.append_of_mem h;exact⟨b,beh:: a,by simpa using e,rfl⟩
  ·simp at h;exact⟨xA l par,[],by simp,by simpa using h⟩
theorem Oh{K:List Int}{k n:Nat}{ids:List Int}(h:(K.drop k).take n=ids):K=K.take k++(ids++K.drop (k+n)):=by
 rw[<-h]
 conv=>lhs;rw[<-List.take_append_drop k K,<-List.take_append_drop n (K.drop k),List.drop_drop]
theorem MN(post:List Int):(post++[0])[0]? = some (post.headD 0):=by cases post<;>rfl
theorem dg{d:D}(hw:WF d){par beh a:Int}{r:List Int}{K0:List Int}(hK:K0=xA d.l par++[0]):PF d.l par (a:: r) beh↔a∈K0/\SD K0 a+(a:: r).length<K0.length/\(K0.drop (SD K0 a)).take (a:: r).length=a:: r/\K0[SD K0 a+(a:: r).length]? = some beh:=by
 constructor
 ·rintro⟨pre,b,e,m⟩;have l:=hw.tr.AD par;rw[e] at l;have n:a∉pre:=fun h=>(List.nodup_append.1 l).2.2 a h a FA rfl
  have e0:K0=pre++((a:: r)++(b++[0])):=(by rw[hK,e];simp);have i:SD K0 a=pre.length:=by
   refine yR (by rw[e0];simp) (by simp[e0]) (fun j t c=>?_);have:K0[j]=pre[j]:=(by simp[e0,List.getElem_append_left c]);rw[this];intro k;exact n (k▸List.getElem_mem c)
  rw[i];have g:K0.drop pre.length=(a:: r)++(b++[0]):=(by rw[e0,List.drop_left]);refine⟨by rw[e0];simp,by rw[e0];simp,by rw[g,List.take_left],?_⟩;have:K0[pre.length+(a:: r).length]? = (K0.drop pre.length)[(a:: r).length]?:=(by rw[List.getElem?_drop]);rw[this,g,List.getElem?_append_right Zl,Nat.sub_self,MN,m]
 ·rintro⟨u,v,o,p⟩;have e0:=Oh o;have f:(K0.drop (SD K0 a+(a:: r).length))[0]? = some beh:=(by rw[List.getElem?_drop,Nat.add_zero];exact p);generalize K0.drop (SD K0 a+(a:: r).length)=R at e0 f;generalize K0.take (SD K0 a)=pre at e0;rcases List.eq_nil_or_concat R with rfl|⟨R',z,rfl⟩
  ·simp at f
  ·rw[List.concat_eq_append] at e0 f;have g:xA d.l par++[0]=(pre++((a:: r)++R'))++[z]:=(by rw[<-hK,e0];simp);obtain⟨k,q⟩:=List.append_inj' g rfl;have s:z=0:=(by simpa using q.symm);subst s;rw[MN] at f;exact⟨pre,R',k,(Option.some.inj f).symm⟩
def Lx(l m:List Int)(k:Nat):Prop:=∀j (h:j<l.length) (h':j<m.length),j<k->l[j]=m[j]
theorem Xe(l m:List Int)(A B:vA)(n n' c d:Nat)(w:World)(hn:l.length=n)(hn':m.length=n')(hl:n<=1000000)(hm:n'<=1000000)(H:kI.AA w w.heap.size A l)(H2:kI.AA w w.heap.size B m):
 jA 171 #[.slice A n c,.slice B n' d] w fun e w'=>e= .returned (.bool (decide (l=m)))/\fA w w':=by
 have C:=Zh H;have v:=Zh H2;have u:=Zh hn;have f:=Zh hn';clear H H2 hn hn';by_cases a:n=n'
 ·subst a;go_enter func171,ntmps171;go_wp2_with fail;go_loopw [13] (fun i wr=>∃k:Nat,k<=n/\i = aA k/\Hid (fA w wr)/\Hid (Lx l m k)) (fun i _=>n-(intOf i).toNat)
  case atStart=>exact⟨0,by omega,rfl,Zh Ze,Zh (fun _ _ _ h=>by omega)⟩
  case round=>
   obtain⟨k,G,rfl,q,y⟩:=hrel;by_cases D:k<n
   ·have r:k<l.length:=(IA u.out);have s:k<m.length:=(IA f.out);obtain⟨b,o,rfl,z,I⟩:=yE (C.on q) r;obtain⟨J,K,rfl,t,E⟩:=yE (v.on q) s;have L:(0:Int)<=(k:Int):=dA;have M:(k:Int)<(n:Int):=dA;by_cases g:l[k]=m[k]
    ·have p:=Zh g;have F:(l[k] != m[k])=false:=(by simp[g]);clear g z t;go_wp2_with fail;go_quiet (fail);go_wp2_with fail;go_roundw
     case rel=>
      refine⟨k+1,by omega,by go_num,Zh (OC q _),Zh (fun j h x N=>?_)⟩;by_cases e:j=k
      ·subst e;exact p
      ·exact y j h x dA
     case measure=>simp[intOf];omega
    ·have p:Hid (decide (l=m)=false):=Zh (decide_eq_false (fun e=>g (by subst e;rfl)));have F:(l[k] != m[k])=true:=(by simp[g]);clear g z t;go_wp2_with fail;go_quiet (fail);go_wp2_with fail;go_ret;exact⟨WC p.symm,OC q _⟩
   ·have p:Hid (decide (l=m)=true):=Zh (decide_eq_true (List.ext_getElem (by rw[u.out,f.out]) (fun j h x=>y j h x (IA u.out))));go_wp2_with fail;go_ret;exact⟨WC p.symm,q⟩
 ·have g:((n:Int) != (n':Int))=true:=jB;have p:Hid (decide (l=m)=false):=Zh (decide_eq_false (fun e=>a (by rw[<-u.out,<-f.out,e])));clear a;go_enter func171,ntmps171;go_wp2_with fail;go_ret;exact⟨WC p.symm,Ze⟩
variable{w wx w':World}{B g p q:Nat}{x:Dx}{vd v:Value}{Z:Nat->Prop}{s:Sg}{par beh:Int}
theorem Ph(ids:List Int)(A:vA)(n c:Nat)(h:Pw w B g p x vd Z s wx)(hwf:WF s.1)(hh:kI.AA wx wx.heap.size A ids)(hn:ids.length=n)(nD:n<=1000):
 jA 131 #[lA p,aA par,.slice A n c,aA beh] wx fun e w'=>∃b:Bool,e= .returned (.bool b)/\(b=true↔PF s.1.l par ids beh)/\fA wx w':=by
 have HH:=Zh hh;have LI:=Zh hn;have Y:=Zh hwf;have CN:=Zh (kV par h hwf);clear h hh hn hwf;go_enter func131,ntmps131;go_upto_region 2 with(go_at_call 18;refine CN.mono ?_;rintro e P ⟨f,Q,R,S,G,H,I,rfl,a6,a7,J,a8,i,K⟩);have KE:=Zh J;have B2:Hid (fA wx (P.alloc (.cells (bB f Q R S G H I) 53))):=Zh (K.alloc K.size _);have NB:=Zh (lB.new P f Q R S G H I);have O2:=Zh (i.alloc (.cells (bB f Q R S G H I) 53));have KL:f.kids.length<=200:=(by rw[J];exact LJ Y par);clear CN a6 a7 J a8 i K;generalize P.heap.size=gn at NB|-;generalize P.alloc (.cells (bB f Q R S G H I) 53)=w2 at B2 NB O2|-;have d6:=NB.c6;have a0:=B2.size;clear NB;go_upto_region 3 with(at_builtin;refine kI.QF rfl _ _ rfl (v:=.slice G H I) (l:=f.kids) (m:=[0]) (B:=wx.heap.size) rfl (O2.alloc _) rfl rfl KF (Kind.AA.lit (heap_alloc_new _ _) rfl) jB jB ?_;intro v' q j t a9;have E:Hid (fA wx q):=Zh ((B2.alloc a0 _).grown t jB (fun k hk=>(O2.lt hk).1));obtain⟨A5,n5,F,rfl,f1,f2,f3,f4,f5⟩:=j.slice;have O5:=Zh j;clear j t a9 f2 f3 f4 f5);obtain⟨K0,u⟩:=DA (f.kids++[0]);have i:=f1;rw[u] at O5 i;obtain⟨y,aa⟩:∃y,A5=some (cA y 0):=by
  rcases O5.form with⟨_,e⟩|⟨y,_,_,hv',_⟩
  ·rw[<-u] at e;simp at e
  ·injection hv' with e1 _ _;exact⟨y,e1⟩
 subst aa;have KK:Hid (K0=xA s.1.l par++[0]):=Zh (by rw[<-u,KE.out]);have T:=Zh i;have af:=(vG O5).2.1;have ag:=(vG O5).2.2.1;have l5:n5<=201:=(by rw[<-i,<-u];simp;omega);have OA:=Zh (vG O5);clear f1 u i O2 d6 a0 B2 KE KL;cases ids with
 |nil=>
  obtain rfl:0=n:=LI;have CC:=Zh (P6.lX K0 beh (some (cA y 0)) n5 F q T dA OA.2.2.2.2);have C:Hid (beh∈K0↔PF s.1.l par [] beh):=Zh (by rw[Nh,KK.out]);go_wp2_with fail;refine PA CC ?_;go_wp2_with fail;go_ret;exact⟨decide (beh∈K0),rfl,by rw[decide_eq_true_iff];exact C,E⟩
 |cons a r=>
  have C:=Zh (dg Y (par:=par) (beh:=beh) (a:=a) (r:=r) KK);have ln:(a:: r).length=n:=LI;rw[ln] at C;have n0:0<n:=(by rw[<-ln];simp);have q0:((n:Int)==0)=false:=jB;have H5:=Zh (HH.on E);obtain⟨b,o,rfl,hb,g0⟩:=yE H5 (k:=0) FA;simp only[Nat.add_zero,List.getElem_cons_zero] at g0;have i1:(0:Int)<(n:Int):=dA;clear hb HH;by_cases L:a∈K0
  ·have V:=Zh (WM K0 a (some (cA y 0)) n5 F q T dA L OA.2.2.2.2);have a1:=dV L;rw[T.out] at a1 C;obtain⟨k,hk⟩:=DA (SD K0 a);rw[hk] at V a1 C;have HA:=Zh L;have a2:IntKind.i64.wrap ((n5:Int)-(k:Int))=((n5-k:Nat):Int):=by
    simp[IntKind.wrap,IntKind.bits,IntKind.signed];omega
   have k0:((k:Int)<0)=False:=eq_false dA;clear L hk ln;by_cases a3:n5-k<=n
   ·have M:Hid (¬PF s.1.l par (a:: r) beh):=Zh (fun e=>by have:=(C.1 e).2.1;omega);have hq:((n5-k:Nat):Int)<=(n:Int):=dA;obtain⟨df,D⟩:=DA (n5-k);rw[D] at a2 hq;clear a3 D;go_upto_region 6 with(go_at_call 133;refine PA V ?_);go_wp2_with fail;go_ret;exact⟨false,rfl,⟨fun e=>(by cases e),fun e=>absurd e M⟩,E⟩
   ·have hq:¬((n5-k:Nat):Int)<=(n:Int):=dA;have a4:k+n<n5:=dA;have i3:(0:Int)<=(k:Int):=dA;have i4:(k:Int)<=(n5:Int):=dA;have i5:(n5:Int)<=(F:Int):=dA;have HD:Hid (kI.AA q q.heap.size (some (cA y k)) (K0.drop k)):=Zh (by
     have:=OA.2.2.2.2.drop k;simpa[kI] using this)
    have LT:Hid (((K0.drop k).take n).length=n):=Zh (by rw[List.length_take,List.length_drop,T.out];omega);have CE:=Zh (Xe ((K0.drop k).take n) (a:: r) (some (cA y k)) (some (cA b o)) n n (F-k) c q LT LI dA dA (HD.take n) H5);have N:k+n<K0.length:=(by rw[T.out];exact a4);have GX:Hid (∀wz,fA q wz->wz.cell? ⟨y,k+n,none⟩=some (aA K0[k+n])):=Zh (fun wz hb=>by
     obtain⟨b',o',e1,_,e3⟩:=yE (OA.2.2.2.2.on hb) N;injection e1 with e1;injection e1 with u1 u2;subst u1;subst u2;simpa using e3)
    have SX:Hid (PF s.1.l par (a:: r) beh↔(K0.drop k).take n=a:: r/\K0[k+n]=beh):=Zh (by
     rw[C.out,List.getElem?_eq_getElem N];exact⟨fun⟨_,_,h3,h4⟩=>⟨h3,Option.some.inj h4⟩,fun⟨h3,h4⟩=>⟨HA,a4,h3,by rw[h4]⟩⟩)
    have ad:¬F=k:=dA;have ab:(n:Int)<=((F-k:Nat):Int):=dA;obtain⟨df,D⟩:=DA (n5-k);obtain⟨dc,ac⟩:=DA (F-k);have ah:(n:Int)<(df:Int):=dA;have ae:(n:Int)<=(df:Int):=dA;have ai:(df:Int)<=(dc:Int):=dA;rw[D] at a2 hq;rw[ac] at CE ab;generalize K0[k+n]=z at GX SX;obtain⟨be,O⟩:=DA (decide ((K0.drop k).take n=a:: r));rw[O] at CE;have a5:=Zh O;clear a3 N O C;go_upto_region 6 with(go_at_call 133;refine PA V ?_);clear V g0;have C9:Hid (jA 171 #[.slice (some (cA y k)) n dc,.slice (some (cA b o)) n c] q fun e w'=>e= .returned (.bool be)/\fA q w'):=Zh (CE.mono (fun e w' d=>d));clear CE;cases be with
    |false=>
     have M:Hid (¬PF s.1.l par (a:: r) beh):=Zh (fun e=>by have:=(SX.1 e).1;have h2:=a5.out;rw[decide_eq_false_iff_not] at h2;exact h2 this);go_wp2_with fail;refine C9.mono ?_;rintro e U ⟨rfl,W⟩;have B6:=Zh (E.trans (W.mono E.size));clear W;go_wp2_with fail;go_ret;exact⟨false,rfl,⟨fun e=>(by cases e),fun e=>absurd e M⟩,B6⟩
    |true=>
     have HE:=Zh (of_decide_eq_true a5.out);go_wp2_with fail;refine C9.mono ?_;rintro e U ⟨rfl,W⟩;have B6:=Zh (E.trans (W.mono E.size));have g6:=GX U W;have h0:(0:Int)<=(n:Int):=dA;clear W;by_cases X:z=beh
     ·have hq:(z==beh)=true:=beq_iff_eq.2 X;have SS:Hid (PF s.1.l par (a:: r) beh):=Zh (SX.2 ⟨HE,X⟩);clear X;go_wp2_with fail;go_ret;exact⟨true,rfl,⟨fun _=>SS,fun _=>rfl⟩,B6⟩
     ·have hq:(z==beh)=false:=beq_eq_false_iff_ne.2 X;have M:Hid (¬PF s.1.l par (a:: r) beh):=Zh (fun e=>X (SX.1 e).2);clear X;go_wp2_with fail;go_ret;exact⟨false,rfl,⟨fun e=>(by cases e),fun e=>absurd e M⟩,B6⟩
  ·have M:Hid (¬PF s.1.l par (a:: r) beh):=Zh (fun e=>L (C.1 e).1);have V:=Zh (P6.p8 K0 a (some (cA y 0)) n5 F q T dA L OA.2.2.2.2);clear L C ln;go_upto_region 6 with(go_at_call 133;refine PA V ?_);go_wp2_with fail;go_ret;exact⟨false,rfl,⟨fun e=>(by cases e),fun e=>absurd e M⟩,E⟩
theorem Et{w wx wz:World}{p g:Nat}{x:Dx}{vd:Value}(hb:fA w wx)(h:Kept (GS w p x g vd) wx wz):iA (EF p x g vd) w wz:=Uj ((Kept.oB hb).trans h)
theorem Dk{d:D}(hw:WF d){par beh:Int}{ids:List Int}(h:PF d.l par ids beh):par≠0\/ids=[]:=by
 by_cases a:ids=[]
 ·exact .inr a
 ·refine .inl (fun e=>?_);subst e;obtain⟨c,b,e,_⟩:=h;have f:nA d.l 0=false:=by
   cases hh:nA d.l 0 with
   |false=>rfl
   |true=>exact absurd rfl (hw.tr.jG hh)
  have:xA d.l 0=[]:=hw.tr.k0 (by rw[f];decide);rw[this] at e;have g:=(List.append_eq_nil_iff.1 e.symm).2;exact a (List.append_eq_nil_iff.1 g).1
theorem wv:Mw:=by
 constructor
 ·intro p par beh A K n c L M w;go_enter func86,ntmps86;go_wp2_with fail;go_ret;exact⟨rfl,Ze⟩
 ·intro w B g p x q v par ids A n c beh K L M u h a y s d N z C i D f j k l m;have T:=Zh (Pw.top h s);have U:=Zh (Ph (par:=par) (beh:=beh) ids A n c T a (d w (iA.refl _ _)) N D);have E:Hid (Dc w B p x/\Lg w B g p q v):=Zh ⟨h,s⟩;have O:Hid (PF x.d.l par ids beh->∀o,fA w o->jA 132 #[lA g,lA p,aA par,.slice A n c,aA beh,.slice K L M] o (LC w B g p x q (GS w p x g q) (uB (dL (yA u)+1) (x.d,v.map (·.r)) par ids beh (yA u)) (cG (dL (yA u)+1) (x.d,v.map (·.r)) par ids beh (yA u)) o)):=Zh (fun V o F=>by
   obtain⟨k1,k2,k3,_⟩:=xX a V;exact Mh u (dL (yA u)) Zl w B g p x q _ _ o par ids A n c beh K L M {
    pw:=T.on F
    wf:=a
    p0:=Dk a V
    kids:=k1
    AD:=k2
    len:=N
    cap:=z
    cm:=C
    nil:=i
    nD:=dA
    ids:=fun wz hz=>d wz (Et F hz)
    want:=fun w' P=>Uw (f w' P)
    BJ:=fun t ht=>j _ (mM ht)
    lH:=k
    num:=l
    log:=by simpa using m})
  clear h a y s d N z C i D f j k l m T;go_enter func86,ntmps86;go_wp2_with fail;refine U.mono ?_;rintro e o ⟨b,rfl,F,G⟩;have I:=Zh F;have J:=Zh G;clear F G U;cases b with
  |false=>
   have NS:Hid (¬PF x.d.l par ids beh):=Zh (fun e=>by have:=I.2 e;cases this);have LD:Hid (wB w B g p x q x q v o):=Zh ⟨E.1.below J,E.2.below J,iA.oB J _,fun _ Q=> .inl Q,fun _ Q=> .inl Q⟩;clear I O;go_wp2_with fail;go_ret;exact⟨1,x,q,v,rfl,LD,fun _=>⟨rfl,rfl,rfl⟩,fun e=>absurd e NS⟩
  |true=>
   have W:Hid (PF x.d.l par ids beh):=Zh (I.1 rfl);have X:=Zh (O W o J);clear I O;go_wp2_with fail;refine X.mono ?_;rintro e w9 ⟨Y,s9,rfl,Z⟩;have D9:=Zh Z;clear Z X;obtain⟨ev,H⟩:=DA (QA Y);rw[H];go_wp2_with fail;go_ret;rw[<-H];obtain⟨⟨x',R,S,y1,y2,_⟩,_,y4,y5⟩:=D9;exact⟨Y,x',R,S,rfl,y1,fun e=>absurd W e,fun _ _ ok=>⟨y5 ok,by rw[y2];exact y4 (y5 ok)⟩⟩
end P19
end Go.Proofs.YtimfajmknmlajaaGreatDoor
