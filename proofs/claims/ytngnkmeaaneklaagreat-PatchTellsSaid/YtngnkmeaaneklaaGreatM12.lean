/- A part of the proof. No condition. -/
import Derived.Deep.DeepCutAuto
import Derived.Deep.RegionHeld3
import Derived.Deep.DrawnRows
import Derived.Deep.RegionWith
import Derived.Test.YtngnkmeaaneklaaGreatM1
import Derived.Test.YtngnkmeaaneklaaGreatM4
import Derived.Test.YtngnkmeaaneklaaGreatM5
import Derived.Test.YtngnkmeaaneklaaGreatM6
import Derived.Test.YtngnkmeaaneklaaGreatM7
import Derived.Test.YtngnkmeaaneklaaGreatM8
import Derived.Test.YtngnkmeaaneklaaGreatM9
set_option linter.unusedVariables false
set_option linter.unusedSimpArgs false
set_option maxRecDepth 100000
set_option maxHeartbeats 40000000
namespace Go.Proofs.YtngnkmeaaneklaaGreat
open Tryz
namespace P17
open Go.RowKit Kd P4 P5 P11 P12 P13 P14 P16
end P17
namespace P19
open P5 P6 P11 P12 P14 P16
structure KJ(s:Sg)(par:Int)(ids:List Int)(beh:Int)(want:List PW):Prop where
 wf:WF s.1
 may:pG s.1
 p0:par≠0
 hp:lA s.1.l par=true
 el:want=[]\/wB (MA s.1.l par)=false
 kids:Kids s par ids
 IC:ids.Nodup
 beh:beh=0\/(lA s.1.l beh=true/\yA s.1.l beh=par/\beh∉ids)
 dJ:∀x∈want,VB x
 gd:∀x∈want,BG x
 room:s.1.l.length+fB want<=s.1.R
theorem KJ.j0{s:Sg}{par beh:Int}{ids:List Int}{want:List PW}(h:KJ s par ids beh want):J0 s par:=⟨h.wf,h.p0,h.hp⟩
def IL(ids:List Int)(beh:Int):List Int:=if beh=0 then ids else beh:: ids
theorem VK(ids:List Int)(beh:Int):∀i∈ids,i∈IL ids beh:=fun i a=>by
 unfold IL;split
 ·exact a
 ·exact List.mem_cons_of_mem _ a
theorem KJ.jn{s:Sg}{par beh:Int}{ids:List Int}{want:List PW}(h:KJ s par ids beh want):Jn s par (IL ids beh) s:=by
 refine⟨⟨h.wf,aF.refl _ _,fun i a=>?_⟩,Tg.refl _,h.may⟩;unfold IL at a;split at a
 ·exact h.kids i a
 ·rename_i hb;rcases List.mem_cons.1 a with rfl|a
  ·rcases h.beh with e|⟨e1,e2,_⟩
   ·exact absurd e hb
   ·exact⟨e1,e2⟩
  ·exact h.kids i a
theorem bQ{x:PW}(h:VB x)(h1:x.kind=1):x.tag.toList≠[]/\wC x.tag x.txt x.key=true/\(x.kids=[]\/wB x.tag=false):=by
 have c:∀{a:wA},P1.NC a.data.toList=true->a.toList≠[]:=fun {a} h e=>by
  rw[ByteArray.toList_eq] at e;rw[e] at h;cases h
 have d:∀{l:KA},P1.fC l=true->P1.NC l=true:=fun {l} h=>by
  unfold P1.fC at h;simp only[Bool.or_eq_true,beq_iff_eq] at h;rcases h with((h|h)|h)|h<;>rw[h]<;>decide
 have z:(z0:wA).toList=[]:=ByteArray.toList_eq _;have f:∀{a b:wA},P1.NC a.data.toList=true->P1.YB b.data.toList=true->wC a z0 b=true:=fun {a b} h1 h2=>by
  unfold wC;rw[if_neg (c h1),h1,h2,z];rfl
 cases h with
 |@el tag key attrs kids hm _ _=>
  have g:=FI hm;simp only[gB,if_true,Bool.and_eq_true,Bool.not_eq_true'] at hm;refine⟨c hm.1.1,f hm.1.1 hm.2,.inr ?_⟩;show wB tag=false;unfold wB;rw[g,decide_eq_false (c hm.1.1)];rfl
 |@vo tag key attrs hm _=>
  have e:gB ⟨3,tag,key⟩=(P1.fC tag.data.toList&&P1.YB key.data.toList):=(by simp[gB]);rw[e,Bool.and_eq_true] at hm;exact⟨c (d hm.1),f (d hm.1) hm.2,.inl rfl⟩
 |tx=>exact absurd h1 (by show¬(2:Int)=1;decide)
 |nd=>exact absurd h1 nA
 |al=>exact absurd h1 nA
theorem cQ{x:PW}(h:VB x)(h2:x.kind=2):P1.YB x.txt.data.toList=true/\wC x.tag x.txt x.key=true/\x.attrs=[]:=by
 have z:(z0:wA).toList=[]:=ByteArray.toList_eq _;cases h with
 |@tx t hm=>
  have e:gB ⟨4,t,z0⟩=(P1.YB t.data.toList&&(z0:wA).toList.isEmpty):=(by simp[gB]);rw[e,Bool.and_eq_true] at hm;refine⟨hm.1,?_,rfl⟩;show wC z0 t z0=true;unfold wC;rw[if_pos z,hm.1,z];rfl
 |el=>exact absurd h2 (by show¬(1:Int)=2;decide)
 |vo=>exact absurd h2 (by show¬(1:Int)=2;decide)
 |nd=>exact absurd h2 nA
 |al=>exact absurd h2 nA
theorem A0{s3:Sg}{id:Int}{x:PW}(hw:WF s3.1)(hm:pG s3.1)(hh:lA s3.1.l id=true)(ht:MA s3.1.l id=x.tag\/(MA s3.1.l id).toList=x.tag.toList)(hx:VB x)(hg:BG x)(h1:x.kind=1)(hr:s3.1.l.length+fB x.kids<=s3.1.R):KJ s3 id (xA s3.1.l id) 0 x.kids:=by
 obtain⟨b,c⟩:=NI hw id;refine⟨hw,hm,hw.tr.SF hh,hh,?_,b,c,.inl rfl,UK hx,hg.ks,hr⟩;rcases(bQ hx h1).2.2 with e|e
 ·exact .inl e
 ·refine .inr ?_;have a:(MA s3.1.l id).toList=x.tag.toList:=by
   rcases ht with h|h
   ·rw[h]
   ·exact h
  have d:(MA s3.1.l id).data.toList=x.tag.data.toList:=(by rw[<-ByteArray.toList_eq,<-ByteArray.toList_eq];exact a);unfold wB at e|-;rw[a,d];exact e
theorem Nn{recOk:lN}{s0 s:Sg}{par b:Int}{ids:List Int}{x:PW}(j0:J0 s0 par)(hk:wB (MA s0.1.l par)=false)(h:Jn s0 par ids s)(hx:VB x)(hg:BG x)(h4:x.kind≠4)(h3:x.kind≠3)(hb:b=0\/b∈ids)(hr:s.1.l.length+aG x<=s.1.R)
 (hrec:∀s3 id,KJ s3 id (xA s3.1.l id) 0 x.kids->recOk s3 id (xA s3.1.l id) x.kids):VI recOk par b x s:=by
 have a:=h.lv.wf;have c:x.kind=1\/x.kind=2:=by
  rcases QT hx with e|e|e|e
  ·exact .inl e
  ·exact .inr e
  ·exact absurd e h3
  ·exact absurd e h4
 have j:wC x.tag x.txt x.key=true:=by
  rcases c with e|e
  ·exact(bQ hx e).2.1
  ·exact(cQ hx e).2.1
 have V:1<=aG x:=by
  rcases c with e|e
  ·rw[xO e];omega
  ·rw[Ta e];exact Zl
 have F:=Xj (s:=s) j cA;have t:(GA s (jB (s.1.n+1) x.tag x.txt x.key)).1 = {s.1 with l:=s.1.l++[GC (s.1.n+1) x.tag x.txt x.key],n:=s.1.n+1}:=by
  show(VA s.1 (jB (s.1.n+1) x.tag x.txt x.key)).2=_;unfold VA;rw[if_pos (show(jB (s.1.n+1) x.tag x.txt x.key).op=1 from rfl)];unfold jD;rw[if_neg (show¬((jB (s.1.n+1) x.tag x.txt x.key).id≠s.1.n+1\/wC (jB (s.1.n+1) x.tag x.txt x.key).tag (jB (s.1.n+1) x.tag x.txt x.key).txt (jB (s.1.n+1) x.tag x.txt x.key).key=false) from ?_),if_neg (show¬s.1.R<=s.1.l.length by omega)]
  ·rfl
  ·rintro(e|e)
   ·exact e rfl
   ·have:wC x.tag x.txt x.key=false:=e;rw[j] at this;cases this
 have u:lA s.1.l (GC (s.1.n+1) x.tag x.txt x.key).id=false:=a.next;have q:∀y,find (GA s (jB (s.1.n+1) x.tag x.txt x.key)).1.l y=if y=s.1.n+1 then some (GC (s.1.n+1) x.tag x.txt x.key) else find s.1.l y:=fun y=>by
  rw[t];exact MN u y
 have i:WF (GA s (jB (s.1.n+1) x.tag x.txt x.key)).1:=fE a _;have f:∀y,lA s.1.l y=true->lA (GA s (jB (s.1.n+1) x.tag x.txt x.key)).1.l y=true/\yA (GA s (jB (s.1.n+1) x.tag x.txt x.key)).1.l y=yA s.1.l y:=fun y G=>fX s.1 (jB (s.1.n+1) x.tag x.txt x.key) a G
 have d:lA (GA s (jB (s.1.n+1) x.tag x.txt x.key)).1.l (s.1.n+1)=true:=by
  unfold lA;rw[q,if_pos rfl];rfl
 obtain⟨w,H⟩:=h.here j0;have k:par≠s.1.n+1:=fun e=>by
  have:=(a.pos w).2;omega
 have g:MA (GA s (jB (s.1.n+1) x.tag x.txt x.key)).1.l par=MA s0.1.l par:=by
  rw[<-H];unfold MA;rw[q,if_neg k]
 have I:=a.n0;have J:JD (GA s (jB (s.1.n+1) x.tag x.txt x.key)) (vB (s.1.n+1) par b):=by
  refine zU ⟨d,(f par w).1,?_,Pc i d ?_ k,by omega,by rw[g];exact hk⟩
  ·rcases hb with e|e
   ·exact .inl e
   ·obtain⟨z,K⟩:=h.lv.lB b e;obtain⟨L,M⟩:=f b z;refine .inr ⟨L,M.trans K,fun W=>?_⟩;have:=(a.pos z).2;omega
  ·unfold xA;rw[q,if_pos rfl];rfl
 have r:WF (YD par b x s).1:=fE i _;have m:lA (YD par b x s).1.l (s.1.n+1)=true:=((aQ (p:=par) i (s.1.n+1) b).1 (s.1.n+1)).trans d;have v:MA (YD par b x s).1.l (s.1.n+1)=x.tag:=by
  have:=((dK i (vB (s.1.n+1) par b)).tag (s.1.n+1) (i.pos d).2 m).2.1;refine this.trans ?_;unfold MA;rw[q,if_pos rfl];rfl
 have A:pG (YD par b x s).1:=lG YG (lG YG h.may _) _;have N:P3.pC x.attrs≠[]->JD (YD par b x s) (rC (s.1.n+1) (P3.pC x.attrs)):=fun o=>by
  refine ZZ m ?_ (P3.YZ hg.mB);rw[v];rcases c with e|e
  ·exact(bQ hx e).1
  ·rw[(cQ hx e).2.2] at o;exact absurd rfl o
 have O:Tg s.1 (GA s (jB (s.1.n+1) x.tag x.txt x.key)).1:=dK a _;have B:Tg s.1 (YD par b x s).1:=O.trans (dK i _);have P:WF (rF par b x s).1/\lA (rF par b x s).1.l (s.1.n+1)=true/\MA (rF par b x s).1.l (s.1.n+1)=x.tag/\pG (rF par b x s).1/\(rF par b x s).1.R=s.1.R:=by
  unfold rF;split
  ·exact⟨r,m,v,A,B.room⟩
  ·have C:lA (GA (YD par b x s) (rC (s.1.n+1) (P3.pC x.attrs))).1.l (s.1.n+1)=true:=((qP (YD par b x s).1 (s.1.n+1) (P3.pC x.attrs)).1 _).trans m;have D:=dK r (rC (s.1.n+1) (P3.pC x.attrs));exact⟨fE r _,C,((D.tag (s.1.n+1) (r.pos m).2 C).2.1).trans v,lG YG A _,D.room.trans B.room⟩
 refine⟨F,J,N,fun E=>hrec _ _ ?_⟩;obtain⟨Q,S,T,U,X⟩:=P;have Y:=zY par b x s;rw[xO E] at hr;exact A0 Q U S (.inl T) hx hg E cA
theorem Ib{l:List Nd}{a:Int}(h:lA l a=true):find l a=some (jC l a):=by
 unfold lA at h;unfold jC;cases hf:find l a with
 |none=>rw[hf] at h;cases h
 |some x=>rfl
theorem eh{recOk:lN}{s0 s:Sg}{par:Int}{ids:List Int}{x:PW}(j0:J0 s0 par)(h:Jn s0 par ids s){a:Int}(ha:a∈ids)(hx:VB x)(hg:BG x)(ht1:x.kind=1->(MA s.1.l a).toList=x.tag.toList)(ht2:x.kind=2->(MA s.1.l a).toList=[])(hr:s.1.l.length+aG x<=s.1.R)
 (hrec:∀s3 id,KJ s3 id (xA s3.1.l id) 0 x.kids->recOk s3 id (xA s3.1.l id) x.kids):uH recOk x a s:=by
 obtain⟨b,q⟩:=h.lv.lB a ha;refine⟨fun e _=>Wj b (ht2 e) (cQ hx e).1,fun c=>?_⟩;have i:P3.bC (jC s.1.l a).attrs=true:=h.may _ (iI (Ib b)).1;have d:(MA s.1.l a).toList≠[]:=(by rw[ht1 c];exact(bQ hx c).1);have j:=P3.FN i hg.mB;refine⟨fun _=>ZZ b d j,hrec _ _ ?_⟩;have k:WF (KF x a s).1/\lA (KF x a s).1.l a=true/\MA (KF x a s).1.l a=MA s.1.l a/\pG (KF x a s).1/\(KF x a s).1.R=s.1.R:=by
  unfold KF;split
  ·have f:lA (GA s (rC a (P3.aC (jC s.1.l a).attrs x.attrs))).1.l a=true:=((qP s.1 a (P3.aC (jC s.1.l a).attrs x.attrs)).1 _).trans b;have g:=dK h.lv.wf (rC a (P3.aC (jC s.1.l a).attrs x.attrs));exact⟨fE h.lv.wf _,f,(g.tag a (h.lv.wf.pos b).2 f).2.1,lG YG h.may _,g.room⟩
  ·exact⟨h.lv.wf,b,rfl,h.may,rfl⟩
 obtain⟨m,n,o,p,r⟩:=k;have t:=yY x a s;rw[xO c] at hr;exact A0 m p n (.inr (by rw[o];exact ht1 c)) hx hg c cA
section
variable{rec:Rec}{s0 s:Sg}{par beh:Int}{ids ids':List Int}{want:List PW}{old:List Ol}
theorem pk(R:kH rec)(h0:WF s0.1)(hp:par≠0)(hsub:∀i∈ids,i∈ids'){p:Sg×List Int}(hl:∀c∈p.2,c∈ids)(h:Lv s0 par ids' p.1)(x:PW)(t:Int)(ht:x.kind≠4->0<=t->ids.getD t.toNat 0∈ids):Lv s0 par ids' (PD rec par beh ids x t p).1:=by
 unfold PD;split
 ·exact h
 rename_i h4;split
 ·rename_i h0t;have a:=h.move h0 (fun c b=>hsub c (hl c b)) beh (ids.getD t.toNat 0) (p.2.idxOf (ids.getD t.toNat 0)) (hsub _ (ht h4 h0t));simp only;split
  ·exact a
  ·exact a.taken R h0 hp (hsub _ (ht h4 h0t)) x
 split
 ·exact h
 ·exact h.new R h0 _ x
theorem j9(R:kH rec)(h0:WF s.1)(hp:par≠0)(hk:Kids s par ids)(hd:ids.Nodup)(ho:old.length=ids.length)(hsub:∀i∈ids,i∈ids')(hb:Lv s par ids' s):∀i,i<=want.length->Lv s par ids' (lC rec par beh ids old want s i).1
 |0,_=>hb
 |i+1,hi=>by
  have hi':i<want.length:=cA;have hA:=SI (want:=want) (beh:=beh) R h0 hp hk hd ho i cA;rw[sJ hi'];refine pk R h0 hp hsub (fun c hc=>?_) (j9 R h0 hp hk hd ho hsub hb i cA) _ _ (fun h4 h0t=>?_)
  ·rw[hA.left] at hc;exact(uG _ _).subset hc
  ·obtain⟨j,a,e1,e2,_,_⟩:=NK ho hi' h0t;rw[PM e1 e2];exact List.mem_of_getElem? e2
end
theorem Ua(d0:D):Cl (fun d=>WF d/\Tg d0 d):=fun _ r h=>⟨bK h.1 r,h.2.trans (dK h.1 r)⟩
theorem Pd:∀(f:Nat) {s:Sg} {par:Int} {ids:List Int} {beh:Int} {want:List PW},dL want<=f->KJ s par ids beh want->GF (f+1) s par ids beh want:=by
 intro f
 induction f with
 |zero=>
  intro s par ids beh want H h;have U:want=[]:=by
   cases want with
   |nil=>rfl
   |cons x r=>
    rw[dL,lH] at H;omega
  subst U;refine⟨fun i d=>absurd d DA,iT h.j0 _ h.jn (fun i d=>VK ids beh i d) h.IC⟩
 |succ f ih=>
  intro s par ids beh want H h;have y:=h.j0;have R:=XG (f+1);have z:=fun i (d:i<=want.length)=>SI (want:=want) (beh:=beh) (old:=ids.map (dB s.1.l)) R h.wf h.p0 h.kids h.IC DA i d
  have A:∀i,i<=want.length->Jn s par (IL ids beh) (lC (fun s i b w=>DB (f+1) s i b 0 w) par beh ids (ids.map (dB s.1.l)) want s i).1:=fun i d=>
   ⟨j9 R h.wf h.p0 h.kids h.IC DA (VK ids beh) h.jn.lv i d,(dN (Ua s.1) (wO (Ua s.1) (f+1)) (s:=s) ⟨h.wf,Tg.refl _⟩ i d).2,dN YG (wO YG (f+1)) (s:=s) h.may i d⟩
  have k:∀i,i<=want.length->(∀c∈(lC (fun s i b w=>DB (f+1) s i b 0 w) par beh ids (ids.map (dB s.1.l)) want s i).2,c∈ids)/\(lC (fun s i b w=>DB (f+1) s i b 0 w) par beh ids (ids.map (dB s.1.l)) want s i).2.Nodup:=fun i d=>by
   rw[(z i d).left];exact⟨fun c u=>(uG _ _).subset u,(uG _ _).nodup h.IC⟩
  refine⟨fun i d=>?_,iT y _ (A want.length Zl) (fun c u=>VK ids beh c ((k want.length Zl).1 c u)) (k want.length Zl).2⟩;have hx:=h.dJ _ (List.getElem_mem d);have O:=h.gd _ (List.getElem_mem d);have P:wB (MA s.1.l par)=false:=by
   rcases h.el with e|e
   ·subst e;simp at d
   ·exact e
  have J:=A i cA;obtain⟨I,V⟩:=k i cA;have W:(lC (fun s i b w=>DB (f+1) s i b 0 w) par beh ids (ids.map (dB s.1.l)) want s i).1.1.l.length+aG want[i]<=(lC (fun s i b w=>DB (f+1) s i b 0 w) par beh ids (ids.map (dB s.1.l)) want s i).1.1.R:=by
   have B:=AU (par:=par) (beh:=beh) (ids:=ids) (old:=ids.map (dB s.1.l)) (s:=s) (o0 (f+1)) h.dJ i cA;have Q:=m0 d;have K:=h.room;rw[J.tg.room];omega
  have n:∀C id,KJ C id (xA C.1.l id) 0 want[i].kids->GF (f+1) C id (xA C.1.l id) 0 want[i].kids:=fun C id X=>ih (by
   have:=Nat.le_trans (nR (List.getElem_mem d)) H;rw[lH] at this;omega) X
  have p:beh=0\/beh∈IL ids beh/\beh∉ids:=by
   rcases h.beh with e|⟨_,_,e⟩
   ·exact .inl e
   ·by_cases S:beh=0
    ·exact .inl S
    ·exact .inr ⟨by unfold IL;rw[if_neg S];simp,e⟩
  intro Y;refine⟨fun v=>?_,fun v K=>?_⟩
  ·have D:(ids.map (dB s.1.l)).length=ids.length:=DA;obtain⟨j,a,T,G,Z,_⟩:=NK (old:=ids.map (dB s.1.l)) D d v;rw[PM T G];have m:a∈ids:=List.mem_of_getElem? G;have L:a∈(lC (fun s i b w=>DB (f+1) s i b 0 w) par beh ids (ids.map (dB s.1.l)) want s i).2:=by
    rw[(z i cA).left];exact VN Z G
   obtain⟨m1,M⟩:=jk y P J (fun c u=>VK ids beh c (I c u)) V L (p.imp id (fun⟨e,e'⟩=>⟨e,fun u=>e' (I _ u)⟩));refine⟨m1,fun K=>?_⟩;have E:=wU (old:=ids.map (dB s.1.l)) d;have q:=v;rw[E] at q;obtain⟨j',o,fl,a0,e4,B,_,g⟩:=nS _ q;rw[<-E,T] at e4;have ej:j=j':=cA;subst ej;have ho:o=dB s.1.l a:=by
    rw[List.getElem?_map,G] at B;exact(Option.some.inj B).symm
   have F:lA s.1.l a=true:=(h.kids a m).1;have t:MA (UB (lC (fun s i b w=>DB (f+1) s i b 0 w) par beh ids (ids.map (dB s.1.l)) want s i).1 par (lC (fun s i b w=>DB (f+1) s i b 0 w) par beh ids (ids.map (dB s.1.l)) want s i).2 beh a ((lC (fun s i b w=>DB (f+1) s i b 0 w) par beh ids (ids.map (dB s.1.l)) want s i).2.idxOf a)).1.1.l a=o.tag:=by
    rw[M.tag y (VK ids beh a m) F,ho];unfold MA dB;have:=Ib F;rw[this]
   have a1:=xY (lC (fun s i b w=>DB (f+1) s i b 0 w) par beh ids (ids.map (dB s.1.l)) want s i).1 par (lC (fun s i b w=>DB (f+1) s i b 0 w) par beh ids (ids.map (dB s.1.l)) want s i).2 beh a ((lC (fun s i b w=>DB (f+1) s i b 0 w) par beh ids (ids.map (dB s.1.l)) want s i).2.idxOf a);have N:(UB (lC (fun s i b w=>DB (f+1) s i b 0 w) par beh ids (ids.map (dB s.1.l)) want s i).1 par (lC (fun s i b w=>DB (f+1) s i b 0 w) par beh ids (ids.map (dB s.1.l)) want s i).2 beh a ((lC (fun s i b w=>DB (f+1) s i b 0 w) par beh ids (ids.map (dB s.1.l)) want s i).2.idxOf a)).1.1.R=(lC (fun s i b w=>DB (f+1) s i b 0 w) par beh ids (ids.map (dB s.1.l)) want s i).1.1.R:=M.tg.room.trans J.tg.room.symm;unfold EC at g;refine eh y M (VK ids beh a m) hx O (fun B=>?_) (fun Q=>?_) (by rw[N];omega) n
   ·rw[if_pos B] at g;simp only[Bool.and_eq_true] at g;rw[t];unfold bq at g;simpa using g.1.1
   ·rw[if_neg cA,if_pos Q] at g;simp only[Bool.and_eq_true] at g;rw[t];simpa using g.2
  ·refine Nn y P J hx O Y K ?_ W n;cases hp2:(lC (fun s i b w=>DB (f+1) s i b 0 w) par beh ids (ids.map (dB s.1.l)) want s i).2 with
   |nil=>exact p.imp id (fun e=>e.1)
   |cons c r=>exact .inr (VK ids beh c (I c (by rw[hp2];simp)))
end P19
namespace P17
open Go.RowKit Kd P4 P5 P11 P12 P13 P14 P16
inductive UL:PW->Prop
 |mk {kind:Int} {tag key txt:wA} {attrs:List P3.At} {kids:List PW} (ha:P3.bC attrs=true) (hk:∀k∈kids,UL k):UL (.mk kind tag key txt attrs kids)
theorem DY(a:P3.At):JB (dC a).op=true:=by
 cases h:a.st<;>simp[dC,h,JB]
theorem EY{a:P3.At}(h:gB (dC a)=true):P1.NC a.nm.data.toList=true/\P1.YB a.vl.data.toList=true:=by
 cases hs:a.st<;>simp[dC,hs,gB] at h<;>exact h
theorem C0{l pre post:List In}{x:In}{ats:List P3.At}(hl:l=pre++x:: (ats.map dC++post))(hx:gD x.op=true)(hf:aD l l.length=0)(hm:∀a∈ats,gB (dC a)=true):P3.bC ats=true:=by
 have k:l.length=pre.length+1+ats.length+post.length:=(by rw[hl];simp;omega);have d:l[pre.length]? = some x:=(by rw[hl,List.getElem?_append_right Zl,Nat.sub_self];rfl);have f:∀j (b:j<ats.length),l[pre.length+1+j]? = some (dC ats[j]):=fun j b=>by
  rw[hl,List.getElem?_append_right cA,show pre.length+1+j-pre.length=j+1 by omega,List.getElem?_cons_succ,List.getElem?_append_left (by simpa using b),List.getElem?_map,List.getElem?_eq_getElem b];rfl
 have m:∀j,j<=ats.length->yG l (pre.length+1+j)=some ((ats.take j).map (fun a=>a.nm.toList)):=by
  intro j
  induction j with
  |zero=>
   intro _;have c:pre.length<l.length:=cA;have e:l[pre.length]=x:=(by rw[List.getElem?_eq_getElem c] at d;injection d);rw[Nat.add_zero,fP c,e,eS hx];rfl
  |succ j ih=>
   intro b;have c:pre.length+1+j<l.length:=cA;have e:l[pre.length+1+j]=dC (ats[j]'cA):=by
    have:=f j cA;rw[List.getElem?_eq_getElem c] at this;injection this
   rw[show pre.length+1+(j+1)=pre.length+1+j+1 by omega,fP c,e,fS (DY _),ih cA,List.take_add_one,List.getElem?_eq_getElem cA,Option.toList_some,List.map_append];rfl
 have n:∀j (b:j<ats.length),ats[j].nm.toList∉(ats.take j).map (fun a=>a.nm.toList)/\j<8:=fun j b=>by
  have c:pre.length+1+j<l.length:=cA;have g:=(MZ c hf).2;rw[VD,f j b] at g;simp only[ZK] at g;rw[hm _ (List.getElem_mem b),if_neg nA,DY,if_pos rfl,jS l _ _ 0 cA,m j cA,jM] at g;split at g
  ·cases g
  ·rename_i hno;simp only[not_or,List.length_map,List.length_take] at hno;exact⟨hno.1,by have:=hno.2;omega⟩
 refine P3.oJ.2 ⟨?_,fun a o=>EY (hm a o),?_⟩
 ·rcases Nat.lt_or_ge 8 ats.length with h|h
  ·have:=(n 8 h).2;omega
  ·exact h
 ·rw[List.pairwise_iff_getElem];intro i j q b p e;refine(n j b).1 ?_;rw[List.mem_map];exact⟨ats[i],by rw[List.mem_take_iff_getElem];exact⟨i,by omega,rfl⟩,e⟩
theorem lT{l:List In}:∀{ks:List PW} {pre post:List In},(∀k∈ks,∀pre post,l=pre++(pB k++post)->UL k)->l=pre++(cB ks++post)->∀k∈ks,UL k
 |[],_,_,_,_,k,hk=>by cases hk
 |a:: ks,pre,post,h,hl,k,hk=>by
  rw[cB] at hl;rcases List.mem_cons.1 hk with rfl|hk
  ·exact h _ DA pre (cB ks++post) (by rw[hl,List.append_assoc])
  ·exact lT (ks:=ks) (pre:=pre++pB a) (post:=post) (fun k hk=>h k (by simp[hk])) (by rw[hl];simp) k hk
theorem Bk{l:List In}(hf:aD l l.length=0):∀e:PW,VB e->∀pre post,l=pre++(pB e++post)->UL e:=by
 intro e
 induction e using PW.ind with
 |h kind tag key txt attrs kids ih=>
  intro d pre post b;cases d with
  |el hm ha a=>
   rw[lI (FI hm)] at b;refine .mk (C0 (pre:=pre) (post:=cB kids++[⟨2,z0,z0⟩]++post) (x:=⟨1,tag,key⟩) (by rw[b];simp) rfl hf ha) ?_;exact lT (pre:=pre++⟨1,tag,key⟩:: attrs.map dC) (post:=[⟨2,z0,z0⟩]++post) (fun k c=>ih k c (a k c)) (by rw[b];simp)
  |vo hm ha=>
   rw[lJ (II hm)] at b;exact .mk (C0 (pre:=pre) (post:=post) (x:=⟨3,tag,key⟩) (by rw[b];simp) rfl hf ha) (by intro k a;cases a)
  |tx _=>exact .mk rfl (by intro k a;cases a)
  |nd=>exact .mk rfl (by intro k a;cases a)
  |al=>exact .mk rfl (by intro k a;cases a)
theorem O0{l:List In}(h:bD l=0):∀t∈QB l,UL t:=by
 obtain⟨_,a,_⟩:=lS h;obtain⟨b,c⟩:=EN h;exact lT (pre:=[]) (post:=[]) (fun k d=>Bk a k (c k d)) (by simp[b])
end P17
namespace P14
open Go.RowKit Kd P4 P5 P11 P12 P13
end P14
namespace P13
open Go.RowKit Kd P4 P5 P11 P12
def zq:Prop:=∀(l:List In) (A:jA) (n c:Nat) (w:World),kX.pA w w.heap.size A l->l.length=n->n<=c->c<=maxLen->n<=1000->(∀i∈l,i.a.size<=300/\i.b.size<=300)->
 fA 126 #[.slice A n c] w fun e w'=>e= .returned (UA (bD l:Nat))/\eA w w'
end P13
namespace P19
open P5 P14 P16
def uF(l:List Nd)(par:Int)(ids:List Int)(beh:Int):Prop:=∃pre post:List Int,xA l par=pre++(ids++post)/\beh=post.headD 0
theorem yO{d:D}(h:WF d):pG d:=by exact h.jN
theorem vW{d:D}{par beh:Int}{ids:List Int}(hw:WF d)(h:uF d.l par ids beh):(∀i∈ids,lA d.l i=true/\yA d.l i=par)/\ids.Nodup/\ids.length<=200/\(beh=0\/lA d.l beh=true/\yA d.l beh=par/\beh∉ids):=by
 obtain⟨m,a,e,b⟩:=h;have k:=hw.tr.IC par;have l:=VJ hw par;rw[e] at k l;obtain⟨_,f,_⟩:=List.nodup_append.1 k;obtain⟨g,_,j⟩:=List.nodup_append.1 f;refine⟨fun i n=>(hw.tr.lB par i (by rw[e];simp[n])).2,g,by simp at l;omega,?_⟩;cases a with
 |nil=>exact .inl b
 |cons c r=>
  have b:beh=c:=b;subst b;exact .inr ⟨(hw.tr.lB par beh (by rw[e];simp)).2.1,(hw.tr.lB par beh (by rw[e];simp)).2.2,fun h=>j beh h beh DA rfl⟩
theorem Va{x:PW}(h:P17.UL x):BG x:=by
 induction x using PW.ind with
 |h kind tag key txt attrs kids ih=>
  cases h with
  |mk ha hk=>exact .mk ha (fun k a=>ih k a (hk k a))
mutual
theorem pq:∀x:PW,jE x<=fF x
 | .mk kind tag key txt attrs kids=>by
   rw[jE,fF];have:=XU kids;omega
theorem XU:∀l:List PW,eB l<=JC l
 |[]=>by rw[eB,JC];exact Zl
 |x:: r=>by
  rw[eB,JC];have:=pq x;have:=XU r;omega
end
theorem Se{s:Sg}{par beh:Int}{ids:List Int}{want:List PW}(hw:WF s.1)(hm:pG s.1)(hs:uF s.1.l par ids beh)(hp:lA s.1.l par=true)(hk:wB (MA s.1.l par)=false)(hwf:∀x∈want,VB x)(hg:∀x∈want,BG x)(hr:s.1.l.length+fB want<=s.1.R):GF (dL want+1) s par ids beh want:=by
 obtain⟨a,b,_,c⟩:=vW hw hs;exact Pd (dL want) Zl ⟨hw,hm,hw.tr.SF hp,hp,.inr hk,a,b,c,hwf,hg,hr⟩
end P19
namespace P14
open Go.RowKit Kd P4 P5 P11 P12 P13
structure Wm(K:Kind prog WV)(w:World)(A:jA)(n c:Nat)(ts:List WV):Prop where
 len:ts.length=n
 cap:n<=c
 cm:c<=maxLen
 nil:A=none->c=0
 holds:K.pA w w.heap.size A ts
 ok:∀t∈ts,MC K w w.heap.size t
end P14
namespace P19
open P5 P14 P16
section
variable{rec:Rec}{s0 s:Sg}{par beh:Int}{ids:List Int}{want:List PW}{old:List Ol}
theorem rX(ho:old.length=([]:List Int).length){i:Nat}(hi:i<want.length):¬0<=((foldM old want).take[i]'(by rw[take_len];exact hi)):=fun h=>by
 obtain⟨j,a,_,b,_⟩:=NK (ids:=[]) ho hi h;simp at b
theorem LU(R:kH rec)(h0:WF s.1)(ho:old.length=([]:List Int).length):∀i,i<=want.length->At par [] old want s i (lC rec par beh [] old want s i)
 |0,_=>⟨⟨h0,aF.refl _ _,fun _ h=>by cases h⟩,by
  show([]:List Int)=iE [] _;unfold iE;rfl⟩
 |i+1,hi=>by
  have h:=LU R h0 ho i cA;have hi':i<want.length:=cA;have hn:=rX ho hi';have hs:∀fl,iE ([]:List Int) fl=[]:=fun fl=>by unfold iE;rfl
  have hl:(lC rec par beh [] old want s i).2=[]:=h.left.trans (hs _);rw[sJ hi'];unfold PD;split
  ·exact⟨h.lv,(hs _).symm⟩
  split
  ·exact⟨h.lv,hl.trans (hs _).symm⟩
  ·exact⟨h.lv.new R h0 _ _,hl.trans (hs _).symm⟩
theorem MU(R:kH rec)(h0:WF s.1)(hp:par≠0\/ids=[])(hk:Kids s par ids)(hd:ids.Nodup)(ho:old.length=ids.length):∀i,i<=want.length->At par ids old want s i (lC rec par beh ids old want s i):=by
 rcases hp with hp|rfl
 ·exact SI R h0 hp hk hd ho
 ·exact LU R h0 ho
theorem fa(R:kH rec)(RL:lL rec)(h0:WF s.1)(hp:par≠0\/ids=[])(hk:Kids s par ids)(hd:ids.Nodup)(hl:ids.length<=200)(ho:old.length=ids.length):∀i,i<=want.length->
 (lC rec par beh ids old want s i).1.1.n<=s.1.n+(eB (want.take i):Nat)/\(lC rec par beh ids old want s i).1.2.length<=s.2.length+2000*eB (want.take i):=by
 rcases hp with hp|rfl
 ·exact vO R RL h0 hp hk hd hl ho
 ·intro i
  induction i with
  |zero=>
   intro _;show s.1.n<=s.1.n+(eB (want.take 0):Nat)/\s.2.length<=s.2.length+2000*eB (want.take 0);exact⟨by omega,by omega⟩
  |succ i ih=>
   intro e;obtain⟨c,d⟩:=ih cA;have a:i<want.length:=cA;have b:=(LU (par:=par) (beh:=beh) (want:=want) R h0 ho i cA).lv.wf;have f:=rX (want:=want) ho a;rw[sJ a,WZ a,tJ];generalize lC rec par beh [] old want s i=p at c d b;unfold PD;split
   ·(try dsimp only);exact⟨by omega,by omega⟩
   split
   ·(try dsimp only);exact⟨by omega,by omega⟩
   ·obtain⟨g,j⟩:=U8 (par:=par) RL b (aB p.2 beh) want[i]
    (try dsimp only);exact⟨by omega,by omega⟩
end
section
variable{s:Sg}{par:Int}
theorem Yc{l:List Nd}{i:Int}{f:Nd->Nd}(h1:∀x,(f x).id=x.id)(h2:∀x,(f x).kids=x.kids)(y:Int):xA (iB l i f) y=xA l y:=by
 rw[VP (f:=f) h1 (g:=fun x=>x.kids) h2];unfold xA;cases find l y<;>simp
theorem Sh(d:D)(i:Int)(a:List P3.At)(y:Int):xA (fD d i a).2.l y=xA d.l y:=by
 unfold fD;split
 ·rfl
 split
 ·rfl
 split
 ·rfl
 ·exact Yc (l:=d.l) (i:=i) (f:=gH a) (fun _=>rfl) (fun _=>rfl) y
theorem jW(s:Sg)(i:Int)(a:List P3.At)(y:Int):xA (GA s (rC i a)).1.l y=xA s.1.l y:=Sh s.1 i a y
theorem rM(x:PW)(id:Int)(s:Sg)(y:Int):xA (KF x id s).1.l y=xA s.1.l y:=by
 unfold KF;split
 ·exact jW _ _ _ _
 ·rfl
theorem je{l:List Nd}{i:Int}(h:lA l i=true):inside l i i=true:=by
 unfold inside uE;rw[up,if_pos h];simp
theorem Th{d:D}{i p b:Int}(hi:yA d.l i=0)(hk:xA d.l i=[]):xA (oD d i p b).2.l i=[]:=by
 unfold oD;split
 ·rename_i h;have a:=JK h;have c:i≠p:=fun e=>by
   have f:=a.hn;rw[<-e,je a.hi] at f;cases f
  show xA (OC d.l i p b) i=[];unfold OC QA;rw[if_pos hi,yT,ZS a.hp,yE _ _ c];exact hk
 ·exact hk
theorem Hl(hw:WF s.1):xA s.1.l (s.1.n+1)=[]/\yA s.1.l (s.1.n+1)=0:=by
 have a:=hw.next;unfold lA at a;unfold xA yA;cases hf:find s.1.l (s.1.n+1) with
 |none=>exact⟨rfl,rfl⟩
 |some x=>rw[hf] at a;cases a
theorem dU(hw:WF s.1)(tag txt key:wA):xA (GA s (jB (s.1.n+1) tag txt key)).1.l (s.1.n+1)=[]/\yA (GA s (jB (s.1.n+1) tag txt key)).1.l (s.1.n+1)=0:=by
 show xA (jD s.1 (jB (s.1.n+1) tag txt key)).2.l (s.1.n+1)=[]/\yA (jD s.1 (jB (s.1.n+1) tag txt key)).2.l (s.1.n+1)=0;have a:=Hl hw;unfold jD;split
 ·exact a
 split
 ·exact a
 ·show xA (s.1.l++[GC (s.1.n+1) tag txt key]) (s.1.n+1)=[]/\yA (s.1.l++[GC (s.1.n+1) tag txt key]) (s.1.n+1)=0;have b:find (s.1.l++[GC (s.1.n+1) tag txt key]) (s.1.n+1)=some (GC (s.1.n+1) tag txt key):=by
   rw[MN (x:=GC (s.1.n+1) tag txt key) hw.next (s.1.n+1)];exact if_pos rfl
  unfold xA yA;rw[b];exact⟨rfl,rfl⟩
theorem RY(hw:WF s.1)(b:Int)(x:PW):xA (YD par b x s).1.l (s.1.n+1)=[]:=by
 obtain⟨a,c⟩:=dU hw x.tag x.txt x.key;exact Th c a
theorem LP(hw:WF s.1)(b:Int)(x:PW):xA (rF par b x s).1.l (s.1.n+1)=[]:=by
 unfold rF;split
 ·exact RY hw b x
 ·rw[jW];exact RY hw b x
end
end P19
namespace P16
open Go.RowKit Kd P4 P5 P11 P12 P13 P14 Mv
def qN(w:World)(B p g h m:Nat)(A:jA)(n c:Nat)(old:List Ol)(left:List Bool):Prop:=∃(F s:Nat) (f:Lit->Option Value) (nl:List Int),Lf w B p g h m A n c old left F s f nl
def qH(w:World)(B p g h m:Nat)(A:jA)(n c:Nat)(old:List Ol)(left:List Bool)(a:Int)(e:Ending)(w':World):Prop:=e= .returned (aA a)/\qN w' B p g h m A n c old (AE left a)/\gA (W3 p g m) w w'
theorem MP{left:List Bool}{i:Nat}:AE left (i:Int)=left.set i false:=by
 rw[AE,if_pos cA];rfl
theorem XJ{left:List Bool}:AE left (-1)=left:=by
 rw[AE,if_neg nA]
def XO(old:List Ol)(left:List Bool)(t k:wA)(i:Nat):Prop:=∀(j:Nat) (h:j<old.length),j<i->DF t k old[j]=true->left[j]? = some false
theorem rp{pw:PW}{old:List Ol}{left:List Bool}(h1:pw.kind=1)(hk:pw.key.toList.isEmpty=false){i:Nat}(ha:XO old left pw.tag pw.key i):
 (tF old pw.tag pw.key i = -1->(ZA pw old left old.length).1 = -1)/\(∀(j:Nat) (h:j<old.length),tF old pw.tag pw.key i=(j:Int)->i<=j/\DF pw.tag pw.key old[j]=true/\(left[j]? = some true->(ZA pw old left old.length).1=(j:Int))/\(left[j]? = some false->XO old left pw.tag pw.key (j+1))):=by
 constructor
 ·intro l;rcases gQ old pw.tag pw.key _ i rfl with⟨_,h2⟩|⟨j,c,e,_⟩
  ·refine VR (n:=old.length) (fun j c a o b f=>?_) _ Zl;rw[sT h1 hk];rw[List.getElem?_eq_getElem c] at b;injection b with b;subst b;by_cases p:j<i
   ·cases hx:DF pw.tag pw.key old[j] with
    |false=>rfl
    |true=>
     rw[ha j c p hx] at a;cases a
   ·exact h2 j c cA
  ·rw[l] at e;omega
 ·intro j c l;rcases gQ old pw.tag pw.key _ i rfl with⟨e,_⟩|⟨j',hj',e,hij,hk',hm⟩
  ·rw[l] at e;omega
  ·rw[l] at e;have e:j=j':=cA;subst e;refine⟨hij,hk',fun a=>?_,fun a q m r d=>?_⟩
   ·refine Of (o:=old[j]) (fun q m a o b f=>?_) a (List.getElem?_eq_getElem c) (fun f=>by rw[sT h1 hk];exact hk') c;rw[sT h1 hk];have g:q<old.length:=cA;rw[List.getElem?_eq_getElem g] at b;injection b with b;subst b;by_cases k:q<i
    ·cases hx:DF pw.tag pw.key old[q] with
     |false=>rfl
     |true=>
      rw[ha q g k hx] at a;cases a
    ·exact hm q g cA m
   ·by_cases k:q<i
    ·exact ha q m k d
    ·by_cases e:q=j
     ·subst e;exact a
     ·rw[hm q m cA cA] at d;cases d
theorem Zc{w:World}{B p g h m:Nat}{A:Option Addr}{n c:Nat}{old:List Ol}{left:List Bool}{F s:Nat}{f:Lit->Option Value}{nl:List Int}(x:Lf w B p g h m A n c old left F s f nl)
 (pw:PW) (h1:pw.kind=1) (ht:pw.tag.toList.isEmpty=false) (hk:pw.key.toList.isEmpty=false) (ht2:pw.tag.size<=maxLen) (hk2:pw.key.size<=maxLen):
 Calls prog 152 #[.pointer (some ⟨p,0,none⟩),.agg #[.string pw.tag,.string pw.key]] w (qH w B p g h m A n c old left (ZA pw old left old.length).1):=by
 have B1:Hid (Below w.heap.size w (w.alloc (.cells #[.string pw.tag,.string pw.key] 194))):=Zh (Zb _ _);have D:Hid ((w.alloc (.cells #[.string pw.tag,.string pw.key] 194)).heap[w.heap.size]? = some (.cells #[.string pw.tag,.string pw.key] 194 (0,0))):=Zh (heap_alloc_new w _);have XL:=Zh (x.alloc (.cells #[.string pw.tag,.string pw.key] 194));have H:Hid (w.heap.size≠m):=Zh (by have:=x.map.lt;omega);have P:=Zh x.len;have a6:=x.small;clear x;have AS:Hid (∀i,XO old left pw.tag pw.key i->_):=Zh (fun i ha=>rp h1 hk (i:=i) ha);have HT:=Zh ht;have HK:=Zh hk;have Q:Hid (keyOf prog 194 (.agg #[.string pw.tag,.string pw.key])=some (SE pw.tag pw.key)):=Zh (PO ht2 hk2);have I:=Zh ht2;have J:=Zh hk2;generalize (ZA pw old left old.length).1=a7 at AS|-;generalize pw.tag=t at *;generalize pw.key=k at *;clear h1 ht hk ht2 hk2;go_enter func152,ntmps152;go_upto_region 1 with fail;generalize a2:w.heap.size=d at D H B1|-;rw[<-a2] at B1;generalize w.alloc (.cells #[.string t,.string k] 194)=W at B1 D XL|-;have a0:W.cell? ⟨d,0,none⟩=some (.string t):=cell_of_row W d 0 _ _ (0,0) D.out;have a1:W.cell? ⟨d,1,none⟩=some (.string k):=cell_of_row W d 1 _ _ (0,0) D.out;obtain⟨i,K,R⟩:=XL.out.nm t k I.out J.out HT.out HK.out;have v:=Zh R;have CN:=Zh (me XL.out t k I.out J.out _ K);have y:=Zh K;clear R K;go_wp2_with fail;refine CN.out.mono ?_;rintro e w1 ⟨rfl,b1⟩;have ST:Hid (∃(r:Nat) (a:Int) (l:Lit->Option Value),n-i=n-r/\Value.int .i64 (tF old t k i)= .int .i64 a/\Hid (tF old t k r=a)/\Hid (XO old left t k r)/\Hid (YL (l (SE t k)) a)/\Hid (Lf w1 B p g h m A n c old left F s l nl)/\Hid (gA (fun q=>q=m) W w1)):=Zh ⟨i,_,f,rfl,rfl,Zh rfl,v,y,Zh (XL.out.on b1),Zh (gA.tB b1 _)⟩;clear b1 CN a0 a1 v y;go_wp2_with fail
 go_loopg [5] (n-i) (fun q s5 wr=>∃(r:Nat) (a:Int) (l:Lit->Option Value),q=n-r/\s5= .int .i64 a/\Hid (tF old t k r=a)/\Hid (XO old left t k r)/\Hid (YL (l (SE t k)) a)/\Hid (Lf wr B p g h m A n c old left F s l nl)/\Hid (gA (fun q=>q=m) W wr))
 case atStart=>exact ST.out
 case round=>
  obtain⟨r,a,l,rfl,rfl,HN,v,y,u,HB⟩:=hrel;clear ST;obtain⟨z,C⟩:=AS.out r v.out;have c1:=u.out.c1;have c4:=u.out.c4;have c3:=u.out.c3;have E:=HB.out.block d (FA D.out) H.out;have U:=Zh (E.trans D.out);have a0:wr.cell? ⟨d,0,none⟩=some (.string t):=cell_of_row wr d 0 _ _ (0,0) U.out;have a1:wr.cell? ⟨d,1,none⟩=some (.string k):=cell_of_row wr d 1 _ _ (0,0) U.out;clear E;have V:Hid (gA (W3 p g m) w wr):=Zh (((gA.tB B1.out _).trans (HB.out.mono (T:=W3 p g m) (fun q _ hq=> .inr (.inr hq))) (fun _ _ h=>h)));rcases gQ old t k _ r rfl with⟨e,_⟩|⟨j,hj,e,_⟩
  ·have e2:a = -1:=HN.out.symm.trans e;subst e2;have o:=z e;subst o;clear z C e;go_wp2_with fail;go_ret;exact⟨rfl,⟨F,s,l,nl,by rw[XJ];exact u.out⟩,V.out⟩
  ·have e2:a=(j:Int):=HN.out.symm.trans e;subst e2;obtain⟨a8,L,r1,r2⟩:=C j hj e;have X:j<n:=(by have:=P.out;omega);obtain⟨b,hb,g0,gf⟩:=u.out.taken X;cases b with
   |true=>
    have o:=r1 hb;subst o;clear z C r1 r2 hb e L;go_wp2_with fail;go_ret;refine⟨rfl,⟨F,s,l,nl,?_⟩,?_⟩
    ·rw[MP];exact u.out.take X
    ·exact gA.setCell (S:=W3 p g m) (p:=⟨g,j,none⟩) V.out (fun _=> .inr (.inl rfl)) _
   |false=>
    have Y:=Zh (r2 hb);obtain⟨rfl,rfl⟩:=AQ.1 L;have a3:=u.out.next hj HT.out HK.out;obtain⟨a',M⟩:∃a',tF old old[j].tag old[j].key (j+1)=a':=⟨_,rfl⟩;have Z:=Zh M;rw[M] at a3;have a9:=u.out.sz;have G:(l (SE old[j].tag old[j].key)).isSome=true:=by
     rcases y.out with⟨_,hz⟩|hz
     ·omega
     ·rw[hz];rfl
    have a4:=Zh G;obtain⟨O,a5,m6,g6⟩:=(u.out.map.kept (w':=wr.drew) rfl).store (Maps.Keyed.of_law SO) underlying215 (by unfold maxLen;omega) (val:=.int .i64 a') Q.out (WK l (SE old[j].tag old[j].key) (some (.int .i64 a')));have G6:=Zh (tX g6);have L6:=Zh (u.out.name I.out J.out a4.out (j+1) Z.out Y.out m6 G6.out);have B6:Hid (gA (fun q=>q=m) W O):=Zh (HB.out.trans (T:=fun q=>q=m) (gA.sG G6.out (fun q hq _=>(Option.some.inj hq).symm)) (fun _ _ h=>h));have N:=(B6.out.block d (FA D.out) H.out).trans D.out;have K6:O.cell? ⟨p,3,none⟩=some (.map (some m))/\O.cell? ⟨d,0,none⟩=some (.string old[j].tag)/\O.cell? ⟨d,1,none⟩=some (.string old[j].key):=⟨L6.out.c3,cell_of_row O d 0 _ _ (0,0) N,cell_of_row O d 1 _ _ (0,0) N⟩;have N6:Hid (YL (OJ l (SE old[j].tag old[j].key) (some (.int .i64 a')) (SE old[j].tag old[j].key)) a'):=Zh (.inr (WK l _ _).1);clear z C r1 r2 hb e L g6 m6 N M G;go_upto_region 4 with fail;go_region_held3 (fun w'=>w'.cell? ⟨p,3,none⟩=some (.map (some m))/\w'.cell? ⟨d,0,none⟩=some (.string old[j].tag)/\w'.cell? ⟨d,1,none⟩=some (.string old[j].key)) (first|go_keep|exact K6) (fail);go_wp2_with fail
    go_roundg (n-(j+1))
    case measure=>omega
    case rel=>exact⟨j+1,a',_,rfl,rfl,Z,Y,N6,L6,B6⟩
theorem qt:prog.eqGuardType prog.depth 194=false:=by kernel_rfl
theorem oe{b:wA}(h:b.toList.isEmpty=true):b=⟨#[]⟩:=by
 obtain⟨⟨l⟩⟩:=b;rw[ByteArray.toList_eq,List.isEmpty_iff] at h;simp only at h;rw[h]
theorem Wh(t:PW)(o:Ol)(q:Nat)(w:World)(h1:t.kind=1)(ht:t.tag.toList.isEmpty=false)(hk:t.key.toList.isEmpty=true)(hq:w.cell? (dA q 1)=some (bA t.tag))(hlt:q<w.heap.size):
 fA 154 #[.agg #[bA o.tag,bA o.key],iA q] w fun e w'=>e= .returned (.bool (EC t o true))/\eA w w':=by
 obtain⟨r,k⟩:=qA (DF t.tag ⟨#[]⟩ o);have s:Hid (EC t o true=(!o.tag.toList.isEmpty&&r)):=Zh (by
  rw[<-k];unfold EC DF;rw[if_pos h1,oe hk];cases ho:o.tag.toList.isEmpty with
  |false=>simp
  |true=>
   have:bq o.tag t.tag=false:=by
    unfold bq;rw[List.isEmpty_iff] at ho;rw[ho];cases hx:t.tag.toList with
    |nil=>rw[hx] at ht;cases ht
    |cons _ _=>rfl
   rw[this];simp)
 rw[s.out];have i:Hid (eA w (w.alloc (.cells #[bA o.tag,bA o.key] 194))):=Zh (Zb _ _);have g:Hid ((w.alloc (.cells #[bA o.tag,bA o.key] 194)).heap[w.heap.size]? = some (.cells #[bA o.tag,bA o.key] 194 (0,0))):=Zh (heap_alloc_new w _);have u:=Zh hq;have a:Hid (r=(decide (o.tag.toList=t.tag.toList)&&decide (o.key.toList=[]))):=Zh (by rw[<-k];unfold DF bq;rw[show(⟨#[]⟩:wA).toList=[] from by simp[ByteArray.toList_eq]];rw[Bool.eq_iff_iff];simp only[Bool.and_eq_true,beq_iff_eq,decide_eq_true_eq]);clear hq s k h1 ht hk;generalize t.tag=D at u a;obtain⟨tag,key⟩:=o;simp only at i g a|-;have E:=qt;go_enter func154,ntmps154;go_upto_region 1 with fail;have c:=(i.cell (p:=(dA q 1)) hlt).trans u;generalize w.alloc (.cells #[bA tag,bA key] 194)=W at i g c|-;have v:=IA 0 g;have x:=IA 1 g;have l:=Zh (SR tag key W);obtain⟨y,d⟩:=qA tag.toList.isEmpty;rw[d] at l;have m:=Zh d;have f:=Zh (FA g);go_wp2_with fail;refine l.mono ?_;rintro e F ⟨rfl,j⟩;have z:=(j.cell (p:=⟨w.heap.size,0,none⟩) f).trans v;have A:=(j.cell (p:=⟨w.heap.size,1,none⟩) f).trans x;have B:=(j.cell (p:=(dA q 1)) (show q<W.heap.size by have:=f.out;omega)).trans c;have C:=Zh (i.trans (j.mono i.size));clear j v x c l g d;have n:=a.out;subst n;clear a;cases y<;>(go_wp2_with fail)<;>(go_ret;exact⟨by first|rfl|(have h1:=m.out;simp_all),C⟩)
theorem Xh(t:PW)(o:Ol)(w:World)(h2:t.kind=2):
 fA 155 #[.agg #[bA o.tag,bA o.key]] w fun e w'=>e= .returned (.bool (EC t o true))/\eA w w':=by
 have f:EC t o true = !(!o.tag.toList.isEmpty):=by
  unfold EC;rw[if_neg cA,if_pos h2];simp
 rw[f];clear f h2;have c:Hid (eA w (w.alloc (.cells #[bA o.tag,bA o.key] 194))):=Zh (Zb _ _);have d:Hid ((w.alloc (.cells #[bA o.tag,bA o.key] 194)).heap[w.heap.size]? = some (.cells #[bA o.tag,bA o.key] 194 (0,0))):=Zh (heap_alloc_new w _);obtain⟨tag,key⟩:=o;simp only at c d|-;go_enter func155,ntmps155;go_upto_region 1 with fail;generalize w.alloc (.cells #[bA tag,bA key] 194)=W at c d|-;have l:=IA 0 d;have m:=IA 1 d;have g:=Zh (SR tag key W);obtain⟨j,a⟩:=qA tag.toList.isEmpty;rw[a] at g;go_wp2_with fail;refine g.mono ?_;rintro e n ⟨rfl,i⟩;have k:=Zh (c.trans (i.mono c.size));clear i;go_wp2_with fail;go_ret;exact⟨by rw[a];cases j<;>rfl,k⟩
theorem Yh(t:PW)(o:Ol)(w:World)(h3:t.kind=3):
 fA 156 #[.agg #[bA o.tag,bA o.key]] w fun e w'=>e= .returned (.bool (EC t o true))/\eA w w':=by
 have a:EC t o true=true:=by
  unfold EC;rw[if_neg cA,if_neg cA,if_pos h3]
 rw[a];clear a h3;have b:Hid (eA w (w.alloc (.cells #[bA o.tag,bA o.key] 194))):=Zh (Zb _ _);go_enter func156,ntmps156;go_wp2_with fail;go_ret;exact⟨rfl,b⟩
theorem Qc{w:World}{B p g h m:Nat}{A:jA}{n c:Nat}{old:List Ol}{left:List Bool}{F s:Nat}{f:Lit->Option Value}{nl:List Int}(x:Lf w B p g h m A n c old left F s f nl)
 (pw:PW) (hw:∀o,EC pw o false=false) (q:Nat) (HF:∀(o:Ol) (wz:World),gA (fun k=>k=p) w wz->fA 154 #[.agg #[bA o.tag,bA o.key],iA q] wz fun e w'=>e= .returned (.bool (EC pw o true))/\eA wz w'):
 fA 153 #[iA p,.func (.func 154) #[] #[iA q]] w (qH w B p g h m A n c old left (ZA pw old left old.length).1):=by
 have O:=Zh (mJ x);have z:=Zh HF;have C:=Zh x.len;have V:=x.small;have v:Hid (∀d,d<=n->(∀i:Nat,i<d->left[i]? = some false)->(d=n->(ZA pw old left old.length).1 = -1)/\(∀(D:d<old.length),left[d]? = some true->(ZA pw old left old.length).1=if EC pw old[d] true then(d:Int) else -1)):=Zh (fun d W P=>⟨fun e=>by rw[LN (n:=old.length) (fun i hi=>P i (uA x.len)) _ Zl],fun D l=>JS hw P l (List.getElem?_eq_getElem D) D⟩);clear x HF hw;generalize (ZA pw old left old.length).1=X at v|-;go_enter func153,ntmps153;go_wp2_with fail;refine O.mono ?_;rintro e Y ⟨d,a,rfl,K,Z,y,I⟩;have Q:=Zh y;have R:=Zh I;have t:=v d y.front y.gone;clear O v;rcases K with⟨rfl,rfl⟩|⟨l,rfl,D⟩
 ·obtain rfl:=t.1 rfl;clear t y I;go_wp2_with fail;go_ret;exact⟨rfl,⟨d,s,f,nl,by rw[XJ];exact Q⟩,R.mono (T:=W3 p g m) (fun _ _ h=> .inl h)⟩
 ·have E:d<old.length:=(uA C.out);have u:=Zh (t.2 E D);obtain⟨b,o,rfl,hb,z0,L⟩:=JP y.yF E;have G:=Zh (z old[d] Y I);have c0:=y.c0;clear t y I z;generalize old[d]=ob at z0 L G u;obtain⟨tag,key⟩:=ob;simp only at z0 L G;obtain⟨tk,H⟩:=qA (EC pw ⟨tag,key⟩ true);rw[H] at G u;clear H;go_wp2_with fail;refine G.mono ?_;rintro e w2 ⟨rfl,M⟩;have J:=Zh (Q.on M);have U:Hid (gA (W3 p g m) w w2):=Zh ((R.mono (T:=W3 p g m) (fun _ _ h=> .inl h)).trans (T:=fun _=>False) (gA.tB M _) (fun _ _ h=>h.elim));clear M z0 L c0 G;cases tk with
  |false=>
   have j:=u.out;simp only[Bool.false_eq_true,if_false] at j;subst j;go_wp2_with fail;go_ret;exact⟨rfl,⟨d,s,f,nl,by rw[XJ];exact J⟩,U⟩
  |true=>
   have j:=u.out;simp only[if_true] at j;subst j;have c1:=J.c1;obtain⟨bb,N,g0,gf⟩:=J.taken l;clear N;go_wp2_with fail;go_ret;refine⟨rfl,⟨d,s,f,nl,?_⟩,?_⟩
   ·rw[MP];exact J.take l
   ·exact gA.setCell (S:=W3 p g m) (p:=(dA g d)) U (fun _=> .inr (.inl rfl)) _
theorem Sc{w:World}{B p g h m:Nat}{A:jA}{n c:Nat}{old:List Ol}{left:List Bool}{F s:Nat}{f:Lit->Option Value}{nl:List Int}(x:Lf w B p g h m A n c old left F s f nl)
 (pw:PW) (hw:∀o,EC pw o false=false) (HF:∀(o:Ol) (wz:World),gA (fun k=>k=p) w wz->fA 155 #[.agg #[bA o.tag,bA o.key]] wz fun e w'=>e= .returned (.bool (EC pw o true))/\eA wz w'):
 fA 153 #[iA p,.func (.func 155) #[] #[]] w (qH w B p g h m A n c old left (ZA pw old left old.length).1):=by
 have N:=Zh (mJ x);have y:=Zh HF;have z:=Zh x.len;have U:=x.small;have u:Hid (∀d,d<=n->(∀i:Nat,i<d->left[i]? = some false)->(d=n->(ZA pw old left old.length).1 = -1)/\(∀(C:d<old.length),left[d]? = some true->(ZA pw old left old.length).1=if EC pw old[d] true then(d:Int) else -1)):=Zh (fun d V O=>⟨fun e=>by rw[LN (n:=old.length) (fun i hi=>O i (uA x.len)) _ Zl],fun C l=>JS hw O l (List.getElem?_eq_getElem C) C⟩);clear x HF hw;generalize (ZA pw old left old.length).1=W at u|-;go_enter func153,ntmps153;go_wp2_with fail;refine N.mono ?_;rintro e X ⟨d,a,rfl,J,Y,v,H⟩;have P:=Zh v;have Q:=Zh H;have q:=u d v.front v.gone;clear N u;rcases J with⟨rfl,rfl⟩|⟨l,rfl,C⟩
 ·obtain rfl:=q.1 rfl;clear q v H;go_wp2_with fail;go_ret;exact⟨rfl,⟨d,s,f,nl,by rw[XJ];exact P⟩,Q.mono (T:=W3 p g m) (fun _ _ h=> .inl h)⟩
 ·have D:d<old.length:=(uA z.out);have t:=Zh (q.2 D C);obtain⟨b,o,rfl,hb,z0,K⟩:=JP v.yF D;have E:=Zh (y old[d] X H);have Z:=v.c0;clear q v H y;generalize old[d]=ob at z0 K E t;obtain⟨tag,key⟩:=ob;simp only at z0 K E;obtain⟨tk,G⟩:=qA (EC pw ⟨tag,key⟩ true);rw[G] at E t;clear G;go_wp2_with fail;refine E.mono ?_;rintro e w2 ⟨rfl,L⟩;have I:=Zh (P.on L);have R:Hid (gA (W3 p g m) w w2):=Zh ((Q.mono (T:=W3 p g m) (fun _ _ h=> .inl h)).trans (T:=fun _=>False) (gA.tB L _) (fun _ _ h=>h.elim));clear L z0 K Z E;cases tk with
  |false=>
   have j:=t.out;simp only[Bool.false_eq_true,if_false] at j;subst j;go_wp2_with fail;go_ret;exact⟨rfl,⟨d,s,f,nl,by rw[XJ];exact I⟩,R⟩
  |true=>
   have j:=t.out;simp only[if_true] at j;subst j;have c1:=I.c1;obtain⟨bb,M,g0,gf⟩:=I.taken l;clear M;go_wp2_with fail;go_ret;refine⟨rfl,⟨d,s,f,nl,?_⟩,?_⟩
   ·rw[MP];exact I.take l
   ·exact gA.setCell (S:=W3 p g m) (p:=(dA g d)) R (fun _=> .inr (.inl rfl)) _
theorem Tc{w:World}{B p g h m:Nat}{A:jA}{n c:Nat}{old:List Ol}{left:List Bool}{F s:Nat}{f:Lit->Option Value}{nl:List Int}(x:Lf w B p g h m A n c old left F s f nl)
 (pw:PW) (hw:∀o,EC pw o false=false) (HF:∀(o:Ol) (wz:World),gA (fun k=>k=p) w wz->fA 156 #[.agg #[bA o.tag,bA o.key]] wz fun e w'=>e= .returned (.bool (EC pw o true))/\eA wz w'):
 fA 153 #[iA p,.func (.func 156) #[] #[]] w (qH w B p g h m A n c old left (ZA pw old left old.length).1):=by
 have N:=Zh (mJ x);have y:=Zh HF;have z:=Zh x.len;have U:=x.small;have u:Hid (∀d,d<=n->(∀i:Nat,i<d->left[i]? = some false)->(d=n->(ZA pw old left old.length).1 = -1)/\(∀(C:d<old.length),left[d]? = some true->(ZA pw old left old.length).1=if EC pw old[d] true then(d:Int) else -1)):=Zh (fun d V O=>⟨fun e=>by rw[LN (n:=old.length) (fun i hi=>O i (uA x.len)) _ Zl],fun C l=>JS hw O l (List.getElem?_eq_getElem C) C⟩);clear x HF hw;generalize (ZA pw old left old.length).1=W at u|-;go_enter func153,ntmps153;go_wp2_with fail;refine N.mono ?_;rintro e X ⟨d,a,rfl,J,Y,v,H⟩;have P:=Zh v;have Q:=Zh H;have q:=u d v.front v.gone;clear N u;rcases J with⟨rfl,rfl⟩|⟨l,rfl,C⟩
 ·obtain rfl:=q.1 rfl;clear q v H;go_wp2_with fail;go_ret;exact⟨rfl,⟨d,s,f,nl,by rw[XJ];exact P⟩,Q.mono (T:=W3 p g m) (fun _ _ h=> .inl h)⟩
 ·have D:d<old.length:=(uA z.out);have t:=Zh (q.2 D C);obtain⟨b,o,rfl,hb,z0,K⟩:=JP v.yF D;have E:=Zh (y old[d] X H);have Z:=v.c0;clear q v H y;generalize old[d]=ob at z0 K E t;obtain⟨tag,key⟩:=ob;simp only at z0 K E;obtain⟨tk,G⟩:=qA (EC pw ⟨tag,key⟩ true);rw[G] at E t;clear G;go_wp2_with fail;refine E.mono ?_;rintro e w2 ⟨rfl,L⟩;have I:=Zh (P.on L);have R:Hid (gA (W3 p g m) w w2):=Zh ((Q.mono (T:=W3 p g m) (fun _ _ h=> .inl h)).trans (T:=fun _=>False) (gA.tB L _) (fun _ _ h=>h.elim));clear L z0 K Z E;cases tk with
  |false=>
   have j:=t.out;simp only[Bool.false_eq_true,if_false] at j;subst j;go_wp2_with fail;go_ret;exact⟨rfl,⟨d,s,f,nl,by rw[XJ];exact I⟩,R⟩
  |true=>
   have j:=t.out;simp only[if_true] at j;subst j;have c1:=I.c1;obtain⟨bb,M,g0,gf⟩:=I.taken l;clear M;go_wp2_with fail;go_ret;refine⟨rfl,⟨d,s,f,nl,?_⟩,?_⟩
   ·rw[MP];exact I.take l
   ·exact gA.setCell (S:=W3 p g m) (p:=(dA g d)) R (fun _=> .inr (.inl rfl)) _
end P16
namespace P16
open Go.RowKit Kd P4 P5 P11 P12 P13 P14 Mv Go.ChangeMaps Go.MapKept
theorem vp(n:Nat):(List.replicate n true).map not=List.replicate n false:=by simp
theorem qe(M:Nat)(hM:M<=100000)(w:World):(Instr.makeSlice 157 (aA (M:Int)) (aA (M:Int))).run prog w= .ok (.slice (some ⟨w.heap.size,0,none⟩) M M) (w.alloc (.cells (madeCells #[.bool false] M) 4)):=
 run_make_row' 157 4 (.bool false) 1 underlying157 jb rfl .i64 .i64 M cA cA w
theorem xp:(prog.info? 3).map (fun i=>(i.zero,i.size,i.bytes))=some (some (aA 0),1,8):=by kernel_rfl
theorem vX(M:Nat)(hM:M<=100000)(w:World):(Instr.makeSlice 51 (aA (M:Int)) (aA (M:Int))).run prog w= .ok (.slice (some ⟨w.heap.size,0,none⟩) M M) (w.alloc (.cells (madeCells #[aA 0] M) 3)):=
 run_make_row' 51 3 (aA 0) 8 underlying51 xp rfl .i64 .i64 M cA cA w
theorem MS:∀M:Nat,kI.cells (List.replicate M 0)=List.replicate M (aA 0)
 |0=>rfl
 |M+1=>by
  have h:=MS M;simp only[Kind.cells,List.replicate_succ,List.flatMap_cons] at h|-;rw[h];rfl
structure Nf(w:World)(B p g h m:Nat)(A:jA)(n c:Nat)(old:List Ol)(s:Nat)(f:Lit->Option Value)(nl:List Int)(i:Nat):Prop where
 mA:w.heap[p]? = some (QV A n c g 0 m h)
 Bp:B<=p
 Bm:B<=m
 yF:kO.pA w B A old
 own:cE.Own w B (.slice (some (dA g 0)) n n) ((List.replicate n true).map not)
 nx:kI.Own w B (.slice (some (dA h 0)) n n) nl
 map:uC prog 194 w m s s f
 sz:s+i<=n
 nm:∀t k:wA,t.size<=maxLen->k.size<=maxLen->t.toList.isEmpty=false->k.toList.isEmpty=false->YL (f (SE t k)) (tF old t k i)
 BI:nc old nl i
theorem Nf.lf{w:World}{B p g h m:Nat}{A:jA}{n c:Nat}{old:List Ol}{s:Nat}{f:Lit->Option Value}{nl:List Int}(x:Nf w B p g h m A n c old s f nl 0)(hl:old.length=n)(hs:n<=1000)(hz:∀o∈old,o.tag.size<=maxLen/\o.key.size<=maxLen):
 Lf w B p g h m A n c old (List.replicate n true) 0 s f nl:=
 {mA:=x.mA,Bp:=x.Bp,Bm:=x.Bm,yF:=x.yF,own:=x.own,nx:=x.nx,map:=x.map,sz:=by have:=x.sz;omega,len:=hl,QL:=by simp,small:=hs,Mt:=hz,front:=Nat.zero_le _,gone:=fun i l=>by omega,nm:=fun t k a b d e=>⟨0,x.nm t k a b d e,fun j _ q=>by omega⟩,BI:=x.BI}
theorem qS{w:World}{B g n c:Nat}{l:List Int}(h:kI.Own w B (.slice (some (dA g 0)) n c) l){k:Nat}(hk:k<l.length)(v:Int):
 w.frozen? (dA g k)=false/\(w.cell? (dA g k)).isSome=true/\kI.Own (w.setCell (dA g k) (aA v)) B (.slice (some (dA g 0)) n c) (l.set k v):=by
 refine⟨?_,?_,?_⟩
 ·obtain⟨f,i⟩:=h.ty (g:=g) rfl;simp[World.frozen?,i]
 ·obtain⟨p,q,r,j,_,_,_,_,m⟩:=h.slice;injection j with h1 h2 h3;subst h1;subst h2;subst h3;obtain⟨b,o,a,_,d⟩:=mD m hk;injection a with a;injection a with e1 e2 _;subst e1;subst e2;have d:w.cell? (dA g k)=some (aA l[k]):=(by simpa using d);rw[d];rfl
 ·have:=U2 h hk v;have e:k*kI.size=k:=Nat.mul_one k;rw[e] at this;exact this
section
variable{w w':World}{B p g h m:Nat}{A:jA}{n c:Nat}{old:List Ol}{s:Nat}{f:Lit->Option Value}{nl:List Int}{i j:Nat}
theorem Nf.le(x:Nf w B p g h m A n c old s f nl i):B<=w.heap.size:=by have:=FA x.mA;have:=x.Bp;omega
theorem Nf.on(x:Nf w B p g h m A n c old s f nl i)(hb:eA w w'):Nf w' B p g h m A n c old s f nl i:=
 {x with mA:=(hb.block p (FA x.mA)).trans x.mA,yF:=x.yF.below hb x.le,own:=x.own.below hb Zl,nx:=x.nx.below hb Zl,map:=x.map.below hb x.map.lt}
theorem Nf.c3(x:Nf w B p g h m A n c old s f nl i):w.cell? (dA p 3)=some (.map (some m)):=cell_of_row w p 3 _ _ (0,0) x.mA
theorem Nf.c4(x:Nf w B p g h m A n c old s f nl i):w.cell? (dA p 4)=some (.slice (some (dA h 0)) n n):=cell_of_row w p 4 _ _ (0,0) x.mA
theorem Nf.DV(x:Nf w B p g h m A n c old s f nl i):nl.length=n:=by
 obtain⟨b,d,e,a,j,_⟩:=x.nx.slice;injection a with h1 h2 h3;omega
theorem Nf.set(x:Nf w B p g h m A n c old s f nl (j+1))(hj:j<n)(v:Int):Nf (w.setCell (dA h j) (aA v)) B p g h m A n c old s f (nl.set j v) (j+1):=by
 have d:gA (fun k=>k=h) w (w.setCell (dA h j) (aA v)):=mH w h j _;obtain⟨u,l⟩:=x.nx.ty (g:=h) rfl;obtain⟨t,o⟩:=x.own.ty (g:=g) rfl;have y:p≠h:=RA x.mA l nA;have z:g≠h:=RA o l nA;have C:h≠m:=uJ x.map l;exact {x with
  mA:=(d.block p (FA x.mA) y).trans x.mA
  yF:=x.yF.sB (fun b _ D=>d.block b (uA x.le) (fun e=>by have:=(x.nx.lt (g:=h) rfl).1;omega))
  own:=x.own.but d (fun i E e=>z (by rw[<-e];exact Option.some.inj E))
  nx:=(qS x.nx (by rw[x.DV];exact hj) v).2.2
  map:=x.map.kept (d.block m x.map.lt (fun e=>C e.symm))
  BI:=fun q F r a b=>by
   rw[List.getElem?_set_ne cA];exact x.BI q F r a b}
theorem Nf.name(x:Nf w B p g h m A n c old s f nl (j+1))(hj:j<old.length)(h1:old[j].tag.size<=maxLen)(h2:old[j].key.size<=maxLen)(hv:nl[j]? = some (tF old old[j].tag old[j].key (j+1)))
 (hm:uC prog 194 w' m (s+1) (if(f (SE old[j].tag old[j].key)).isSome then s else s+1) (OJ f (SE old[j].tag old[j].key) (some (aA (j:Int))))) (hg:w.grownBy w' (some m)):∃s',Nf w' B p g h m A n c old s' (OJ f (SE old[j].tag old[j].key) (some (aA (j:Int)))) nl j:=by
 have d:gA (fun k=>k=m) w w':=gA.sG hg (fun j hj _=>(Option.some.inj hj).symm);obtain⟨y,z⟩:=x.nx.ty (g:=h) rfl;obtain⟨r,l⟩:=x.own.ty (g:=g) rfl;have C:p≠m:=uJ x.map x.mA;have D:g≠m:=uJ x.map l;have E:h≠m:=uJ x.map z;refine⟨_,{x with
  mA:=(d.block p (FA x.mA) C).trans x.mA
  yF:=x.yF.sB (fun b _ F=>d.block b (uA x.le) (fun e=>by have:=x.Bm;omega))
  own:=x.own.but d (fun i o e=>D (by rw[<-e];exact Option.some.inj o))
  nx:=x.nx.but d (fun i o e=>E (by rw[<-e];exact Option.some.inj o))
  map:=hm.tight
  sz:=by have:=x.sz;split<;>omega
  nm:=fun t k u v G H=>?_
  BI:=fun q I J a b=>?_}⟩
 ·by_cases e:SE t k=SE old[j].tag old[j].key
  ·obtain⟨rfl,rfl⟩:=ub u v h1 h2 e;rw[ia hj (AQ.2 ⟨rfl,rfl⟩)];exact .inr (WK f _ _).1
  ·rw[(WK f _ _).2 _ e,bV hj]
   ·exact x.nm t k u v G H
   ·cases hx:DF t k old[j] with
    |false=>rfl
    |true=>
     obtain⟨rfl,rfl⟩:=AQ.1 hx;exact absurd rfl e
 ·by_cases e:q=j
  ·subst e;exact hv
  ·exact x.BI q I cA a b
theorem Nf.pass(x:Nf w B p g h m A n c old s f nl (j+1))(hj:j<old.length)(hn:old[j].tag.toList.isEmpty=true\/old[j].key.toList.isEmpty=true):Nf w B p g h m A n c old s f nl j:=
 {x with
  sz:=by have:=x.sz;omega
  nm:=fun t k l o d i=>by
   rw[bV hj]
   ·exact x.nm t k l o d i
   ·cases hx:DF t k old[j] with
    |false=>rfl
    |true=>
     obtain⟨rfl,rfl⟩:=AQ.1 hx;rcases hn with h|h
     ·rw[h] at d;cases d
     ·rw[h] at i;cases i
  BI:=fun q r u a b=>by
   by_cases e:q=j
   ·subst e;rcases hn with h|h
    ·rw[h] at a;cases a
    ·rw[h] at b;cases b
   ·exact x.BI q r cA a b}
end
theorem dU{w wr:World}{p g h m:Nat}{A:jA}{n c:Nat}{old:List Ol}(hb:eA w wr)(hp:w.heap.size<=p)(hg:w.heap.size<=g)(hh:w.heap.size<=h)(hm:w.heap.size<=m)(ho:kO.pA w w.heap.size A old)(hl:old.length=n)(hs:n<=1000)
 (h1:wr.heap[p]? = some (.cells #[.slice A n c,.slice (some (dA g 0)) n n,aA 0,.map (some m),.slice (some (dA h 0)) n n] 217 (0,0)))
 (h2:wr.heap[g]? = some (.cells (madeCells #[.bool false] n) 4 (0,0))) (h3:wr.heap[h]? = some (.cells (madeCells #[aA 0] n) 3 (0,0))) (h4:wr.heap[m]? = some (.map #[] 0)):
 Nf wr w.heap.size p g h m A n c old 0 (fun _=>none) (List.replicate n 0) n where
 mA:=h1
 Bp:=hp
 Bm:=hm
 yF:=ho.below hb Zl
 own:=by
  rw[vp];exact Kind.wG DA hg h2 Zl wD (by rw[size_madeCells];exact(Nat.mul_one n).symm) (by
   rw[toList_madeCells_one,List.take_of_length_le (by simp[cE]),rT])
 nx:=Kind.wG DA hh h3 Zl wD (by rw[size_madeCells];exact(Nat.mul_one n).symm) (by
  rw[toList_madeCells_one,List.take_of_length_le (by simp[kI]),MS])
 map:=⟨.map [],⟨#[],0,h4,⟨by simp,stamped_empty 0,by simp⟩,Zl,rfl⟩,rfl,fun _=>rfl⟩
 sz:=cA
 nm:=fun t k _ _ _ _=> .inl ⟨rfl,ga cA⟩
 BI:=fun j a b=>by omega
def yt(w:World)(A:jA)(n c:Nat)(old:List Ol)(e:Ending)(w':World):Prop:=∃(p g h m:Nat) (s:Nat) (f:Lit->Option Value) (nl:List Int),e= .returned (iA p)/\Lf w' w.heap.size p g h m A n c old (List.replicate n true) 0 s f nl/\eA w w'
theorem se(old:List Ol)(A:Option Addr)(n c:Nat)(w:World)(hh:kO.pA w w.heap.size A old)(hsz:∀o∈old,o.tag.size<=maxLen/\o.key.size<=maxLen)(hn:old.length=n)(hs:n<=1000):
 Calls prog 128 #[.slice A n c] w (yt w A n c old):=by
 have a4:=qe n (by omega);have a5:=vX n (by omega);have am:=@run_makeMap prog;have T:=Zh hh;have O:=Zh hn;have HS:=Zh hsz;have C:=fun(wr:World) (p g h m:Nat)=>@dU w wr p g h m A n c old
 have C:=Zh C;clear hh hn hsz;obtain⟨ob,a6⟩:∃o,o=Obj.cells (madeCells #[.bool false] n) 4 (0,0):=⟨_,rfl⟩;obtain⟨oi,a7⟩:∃o,o=Obj.cells (madeCells #[.int .i64 0] n) 3 (0,0):=⟨_,rfl⟩;rw[<-a6] at a4 C;rw[<-a7] at a5 C;clear a6 a7;go_enter func128,ntmps128;go_upto_region 1 with fail;go_cut [3] (fun s3 wx=>∃(p g h m:Nat),s3= .pointer (some ⟨p,0,none⟩)/\Hid (Nf wx w.heap.size p g h m A n c old 0 (fun _=>none) (List.replicate n 0) n)/\Hid (Below w.heap.size w wx))
 case first=>
  go_region_held3 (fun _=>True) (trivial) (fail)
  all_goals (go_wp2_with fail;go_meet)
  ·exact⟨_,w.heap.size,w.heap.size+1+1,w.heap.size+1,rfl,Zh (C.out _ _ _ _ _ ((((((Below.refl w.heap.size w).alloc Zl _).alloc (by simp) _).alloc (by simp;omega) _).alloc (by simp;omega) _).drew) (by omega) (by omega) (by omega) (by omega) T.out O.out hs (P5.heap_drew (lD (by simp))) (P5.heap_drew (oB (oB (oB (lD (by simp)))))) (P5.heap_drew (oB (lD (by simp)))) (P5.heap_drew (oB (oB (lD (by simp)))))),Zh ((((((Below.refl w.heap.size w).alloc Zl _).alloc (by simp) _).alloc (by simp;omega) _).alloc (by simp;omega) _).drew)⟩
  ·exact⟨_,w.heap.size,w.heap.size+1,w.heap.size+1+1,rfl,Zh (C.out _ _ _ _ _ ((((((Below.refl w.heap.size w).alloc Zl _).alloc (by simp) _).alloc (by simp;omega) _).alloc (by simp;omega) _).drew) (by omega) (by omega) (by omega) (by omega) T.out O.out hs (P5.heap_drew (lD (by simp))) (P5.heap_drew (oB (oB (oB (lD (by simp)))))) (P5.heap_drew (oB (oB (lD (by simp))))) (P5.heap_drew (oB (lD (by simp))))),Zh ((((((Below.refl w.heap.size w).alloc Zl _).alloc (by simp) _).alloc (by simp;omega) _).alloc (by simp;omega) _).drew)⟩
  ·exact⟨_,w.heap.size+1,w.heap.size+1+1,w.heap.size,rfl,Zh (C.out _ _ _ _ _ ((((((Below.refl w.heap.size w).alloc Zl _).alloc (by simp) _).alloc (by simp;omega) _).alloc (by simp;omega) _).drew) (by omega) (by omega) (by omega) (by omega) T.out O.out hs (P5.heap_drew (lD (by simp))) (P5.heap_drew (oB (oB (lD (by simp))))) (P5.heap_drew (oB (lD (by simp)))) (P5.heap_drew (oB (oB (oB (lD (by simp))))))),Zh ((((((Below.refl w.heap.size w).alloc Zl _).alloc (by simp) _).alloc (by simp;omega) _).alloc (by simp;omega) _).drew)⟩
  ·exact⟨_,w.heap.size+1+1,w.heap.size+1,w.heap.size,rfl,Zh (C.out _ _ _ _ _ ((((((Below.refl w.heap.size w).alloc Zl _).alloc (by simp) _).alloc (by simp;omega) _).alloc (by simp;omega) _).drew) (by omega) (by omega) (by omega) (by omega) T.out O.out hs (P5.heap_drew (lD (by simp))) (P5.heap_drew (oB (lD (by simp)))) (P5.heap_drew (oB (oB (lD (by simp))))) (P5.heap_drew (oB (oB (oB (lD (by simp))))))),Zh ((((((Below.refl w.heap.size w).alloc Zl _).alloc (by simp) _).alloc (by simp;omega) _).alloc (by simp;omega) _).drew)⟩
  ·exact⟨_,w.heap.size+1,w.heap.size,w.heap.size+1+1,rfl,Zh (C.out _ _ _ _ _ ((((((Below.refl w.heap.size w).alloc Zl _).alloc (by simp) _).alloc (by simp;omega) _).alloc (by simp;omega) _).drew) (by omega) (by omega) (by omega) (by omega) T.out O.out hs (P5.heap_drew (lD (by simp))) (P5.heap_drew (oB (oB (lD (by simp))))) (P5.heap_drew (oB (oB (oB (lD (by simp)))))) (P5.heap_drew (oB (lD (by simp))))),Zh ((((((Below.refl w.heap.size w).alloc Zl _).alloc (by simp) _).alloc (by simp;omega) _).alloc (by simp;omega) _).drew)⟩
  ·exact⟨_,w.heap.size+1+1,w.heap.size,w.heap.size+1,rfl,Zh (C.out _ _ _ _ _ ((((((Below.refl w.heap.size w).alloc Zl _).alloc (by simp) _).alloc (by simp;omega) _).alloc (by simp;omega) _).drew) (by omega) (by omega) (by omega) (by omega) T.out O.out hs (P5.heap_drew (lD (by simp))) (P5.heap_drew (oB (lD (by simp)))) (P5.heap_drew (oB (oB (oB (lD (by simp)))))) (P5.heap_drew (oB (oB (lD (by simp)))))),Zh ((((((Below.refl w.heap.size w).alloc Zl _).alloc (by simp) _).alloc (by simp;omega) _).alloc (by simp;omega) _).drew)⟩
 case rest=>
  obtain⟨p,g,h,m,rfl,D,P⟩:=hcut;clear C a4 a5 am T;have HP:Hid (w.heap.size<=p/\w.heap.size<=g/\w.heap.size<=h/\w.heap.size<=m):=Zh ⟨D.out.Bp,(D.out.own.lt rfl).1,(D.out.nx.lt rfl).1,D.out.Bm⟩;have ST:=Zh (And.intro D P);clear D P;go_wp2_with fail
  go_loopg [4] n (fun q s4 wr=>∃(s:Nat) (f:Lit->Option Value) (U:List Int),q<=n/\s4= .int .i64 ((q:Int)-1)/\Hid (Nf wr w.heap.size p g h m A n c old s f U q)/\Hid (Below w.heap.size w wr))
  case atStart=>
   exact⟨0,_,_,Zl,rfl,ST.out.1,ST.out.2⟩
  case round=>
   obtain⟨s,f,U,hq,e4,D,P⟩:=hrel;clear ST;by_cases a8:gk=0
   ·subst a8;obtain rfl:=e4;have HL:=Zh (D.out.lf O.out hs HS.out);go_wp2_with fail;go_ret;exact⟨p,g,h,m,s,f,U,rfl,HL.out,P.out⟩
   ·obtain⟨j,rfl⟩:∃j,gk=j+1:=⟨gk-1,by omega⟩;have e5:u4= .int .i64 (j:Int):=(by rw[e4];congr 1;omega);subst e5;clear e4 a8;have E:j<old.length:=(by have:=O.out;omega);obtain⟨b,o,rfl,hb,z0,z1⟩:=JP D.out.yF E;have J:=Zh (HS.out _ (List.getElem_mem E));obtain⟨tag,x⟩:=qA (old[j].tag);obtain⟨key,y⟩:=qA (old[j].key);rw[x,y] at J;rw[x] at z0;rw[y] at z1;have F:=Zh x;have G:=Zh y;clear x y;go_upto_region 6 with fail;have a9:Hid (w.heap.size<=wr.heap.size):=Zh P.out.size;have B1:Hid (Below wr.heap.size wr (wr.alloc (.cells #[.string tag,.string key] 194))):=Zh (Zb _ _);have Q:Hid ((wr.alloc (.cells #[.string tag,.string key] 194)).heap[wr.heap.size]? = some (.cells #[.string tag,.string key] 194 (0,0))):=Zh (heap_alloc_new wr _);generalize aa:wr.heap.size=d at Q a9 B1|-;rw[<-aa] at B1;generalize wr.alloc (.cells #[.string tag,.string key] 194)=W at B1 Q|-;have ab:=Zh (D.out.on B1.out);have BW:Hid (Below w.heap.size w W):=Zh (P.out.trans (B1.out.mono P.out.size));have ax:Hid (w.heap.size<=d):=a9;clear D P aa z0 z1 B1;have an:Hid (∀K,Below W.heap.size W K->K.heap[d]? = some (.cells #[.string tag,.string key] 194 (0,0))):=Zh (fun K h=>(h.block d (FA Q.out)).trans Q.out);have L:Hid (∀K,Below W.heap.size W K->K.cell? ⟨p,4,none⟩=some (.slice (some ⟨h,0,none⟩) n n)/\K.cell? ⟨d,0,none⟩=some (.string tag)/\K.cell? ⟨d,1,none⟩=some (.string key)):=Zh (fun K h=>⟨(ab.out.on h).c4,(h.cell (p:=⟨d,0,none⟩) (FA Q.out)).trans (cell_of_row W d 0 _ _ (0,0) Q.out),(h.cell (p:=⟨d,1,none⟩) (FA Q.out)).trans (cell_of_row W d 1 _ _ (0,0) Q.out)⟩);have CE:=Zh (SR tag key W);obtain⟨et,V⟩:=qA tag.toList.isEmpty;obtain⟨ek,ac⟩:=qA key.toList.isEmpty;rw[V] at CE;obtain⟨_,a0,a1⟩:=L.out W Ze;have ad:=Zh V;have ae:=Zh ac;clear V;go_wp2_with fail;refine CE.out.mono ?_;rintro e X ⟨rfl,b2⟩;have R:=Zh b2;have S:=Zh (ab.out.on b2);obtain⟨c4,a0,a1⟩:=L.out X b2;clear b2 CE;cases et with
    |true=>
     have XN:=Zh (S.out.pass E (.inl (by rw[F.out,ad.out])));go_wp2_with fail
     go_roundg j
     case measure=>omega
     case rel=>exact⟨s,f,U,by omega,by first|rfl|go_num,XN,Zh (BW.out.trans (R.out.mono BW.out.size))⟩
    |false=>
     cases ek with
     |true=>
      have XN:=Zh (S.out.pass E (.inr (by rw[G.out,ae.out])));go_wp2_with fail
      go_roundg j
      case measure=>omega
      case rel=>exact⟨s,f,U,by omega,by first|rfl|go_num,XN,Zh (BW.out.trans (R.out.mono BW.out.size))⟩
     |false=>
      obtain⟨a,ha⟩:=qA (tF old tag key (j+1));have HA:=Zh ha;have Y:j<n:=(by omega);have ao:Hid (∀w9,Below X.heap.size X w9->Calls prog 151 #[.pointer (some ⟨p,0,none⟩),.agg #[.string tag,.string key]] w9 fun e w'=>e= .returned (.int .i64 a)/\Below w9.heap.size w9 w'):=Zh (fun w9 hz=>uX (S.out.on hz).c3 (FA (S.out.on hz).mA) (S.out.on hz).map tag key J.out.1 J.out.2 a (by rw[<-ha];exact S.out.nm tag key J.out.1 J.out.2 ad.out ae.out));have M:Hid (Below w.heap.size w X):=Zh (BW.out.trans (R.out.mono BW.out.size));clear ha;go_upto_region 7 with fail;clear ac a0 a1;have SK:=L.out X R.out;go_region_held3 (fun w'=>w'.cell? ⟨p,4,none⟩=some (.slice (some ⟨h,0,none⟩) n n)/\w'.cell? ⟨d,0,none⟩=some (.string tag)/\w'.cell? ⟨d,1,none⟩=some (.string key)) (first|go_keep|exact SK|exact af) ((first
       |(go_at_call 151;refine(ao.out _ (by first|exact PA Ze _|exact Ze.drew|exact Ze)).mono ?_;rintro e l ⟨rfl,N⟩;have z:Hid (Below X.heap.size X l):=Zh (by first|exact(PA Ze _).trans N|exact(Ze.drew).trans N|exact N);have B:=Zh (S.out.on z.out);have SK:=L.out l (R.out.trans (z.out.mono R.out.size));obtain⟨ap,ag,_⟩:=qS B.out.nx (k:=j) (by rw[B.out.DV];exact Y) a;obtain⟨ay,ah⟩:=Option.isSome_iff_exists.1 ag;have u:=Zh (B.out.set Y a);have Z:Hid (Below w.heap.size w (l.setCell ⟨h,j,none⟩ (.int .i64 a))):=Zh ((M.out.trans (z.out.mono M.out.size)).trans ((mH l h j _).AB (fun i _ hi=>by have:=(B.out.nx.lt (g:=h) rfl).1;omega) (M.out.trans (z.out.mono M.out.size)).size));have v:Hid ((l.setCell ⟨h,j,none⟩ (.int .i64 a)).heap[d]? = some (.cells #[.string tag,.string key] 194 (0,0))):=Zh (by have h5:=an.out l (R.out.trans (z.out.mono R.out.size));obtain⟨az,hc⟩:=B.out.nx.ty (g:=h) rfl;exact((mH l h j _).block d (FA h5) (RA h5 hc (by decide))).trans h5);have af:(l.setCell ⟨h,j,none⟩ (.int .i64 a)).cell? ⟨p,4,none⟩=some (.slice (some ⟨h,0,none⟩) n n)/\(l.setCell ⟨h,j,none⟩ (.int .i64 a)).cell? ⟨d,0,none⟩=some (.string tag)/\(l.setCell ⟨h,j,none⟩ (.int .i64 a)).cell? ⟨d,1,none⟩=some (.string key):=⟨u.out.c4,cell_of_row _ d 0 _ _ (0,0) v.out,cell_of_row _ d 1 _ _ (0,0) v.out⟩;clear N ag)
       |fail))
      generalize l.setCell ⟨h,j,none⟩ (.int .i64 a)=H at u Z v|-;clear ap ah B z;have HV:Hid ((U.set j a)[j]? = some (tF old old[j].tag old[j].key (j+1))):=Zh (by rw[F.out,G.out,HA.out,List.getElem?_set_self (by rw[S.out.DV];exact Y)]);have ai:Hid (keyOf prog 194 (.agg #[.string tag,.string key])=some (SE tag key)):=Zh (PO J.out.1 J.out.2);have hsz:=u.out.sz;obtain⟨r,aq,aj,ak⟩:=(u.out.map.kept (w':=H.drew) rfl).store (Maps.Keyed.of_law SO) underlying215 (by unfold maxLen;omega) (val:=.int .i64 (j:Int)) ai.out (WK f (SE tag key) (some (.int .i64 (j:Int))));have a2:=Zh (tX ak);have al:Hid (∃s',Nf r w.heap.size p g h m (some ⟨b,o,none⟩) n c old s' (OJ f (SE tag key) (some (.int .i64 (j:Int)))) (U.set j a) j):=Zh (by
       have:=u.out.name (w':=r) E (by rw[F.out];exact J.out.1) (by rw[G.out];exact J.out.2) HV.out (by rw[F.out,G.out];exact aj) a2.out;rw[F.out,G.out] at this;exact this)
      have ar:Hid (Below w.heap.size w r):=Zh (Z.out.grown a2.out Z.out.size (fun i hi=>by have:=u.out.Bm;have:=Option.some.inj hi;omega));have c3:=u.out.c3;have a0:H.cell? ⟨d,0,none⟩=some (.string tag):=cell_of_row H d 0 _ _ (0,0) v.out;have a1:H.cell? ⟨d,1,none⟩=some (.string key):=cell_of_row H d 1 _ _ (0,0) v.out;have a3:r.heap[d]? = some (.cells #[.string tag,.string key] 194 (0,0)):=(a2.out.block d (FA v.out) (fun e=>uJ u.out.map v.out (Option.some.inj e))).trans v.out;obtain⟨au,I⟩:=al.out;have av:r.cell? ⟨p,3,none⟩=some (.map (some m))/\r.cell? ⟨d,0,none⟩=some (.string tag)/\r.cell? ⟨d,1,none⟩=some (.string key):=⟨I.c3,cell_of_row r d 0 _ _ (0,0) a3,cell_of_row r d 1 _ _ (0,0) a3⟩;have aw:=Zh I;clear aj ak a3 I al af SK;go_upto_region 8 with fail;go_region_held3 (fun w'=>w'.cell? ⟨p,3,none⟩=some (.map (some m))/\w'.cell? ⟨d,0,none⟩=some (.string tag)/\w'.cell? ⟨d,1,none⟩=some (.string key)) (first|go_keep|exact av) (fail);go_wp2_with fail
      go_roundg j
      case measure=>omega
      case rel=>exact⟨au,_,_,by omega,by first|rfl|go_num,aw,ar⟩
end P16
namespace P16
open Go.RowKit Kd P4 P5 P11 P12 P13 P14 Mv
theorem vt{x:PW}(h:VB x)(h1:x.kind=1):x.tag.toList.isEmpty=false/\x.tag.size<=maxLen/\x.key.size<=maxLen:=by
 have d:∀{a:wA},P1.NC a.data.toList=true->a.toList.isEmpty=false:=fun {a} h=>by
  rw[ByteArray.toList_eq];cases e:a.data.toList with
  |nil=>rw[e] at h;cases h
  |cons _ _=>rfl
 have f:∀{l:KA},P1.fC l=true->P1.NC l=true:=fun {l} h=>by
  unfold P1.fC at h;simp only[Bool.or_eq_true,beq_iff_eq] at h;rcases h with((h|h)|h)|h<;>rw[h]<;>decide
 have b:∀{n:Nat},n<=300->n<=maxLen:=fun h=>by unfold maxLen;omega
 cases h with
 |@el tag key attrs kids hm _ _=>
  have c:=DN hm;simp only at c;simp only[gB,if_true,Bool.and_eq_true,Bool.not_eq_true'] at hm;exact⟨d hm.1.1,b (by show tag.size<=300;omega),b (by show key.size<=300;omega)⟩
 |@vo tag key attrs hm _=>
  have c:=DN hm;simp only at c;exact⟨d (f (II hm)),b (by show tag.size<=300;omega),b (by show key.size<=300;omega)⟩
 |tx=>simp[PW.kind] at h1
 |nd=>simp[PW.kind] at h1
 |al=>simp[PW.kind] at h1
theorem tp{x:PW}(h:VB x):x.kind=1\/x.kind=2\/x.kind=3\/x.kind=4:=by
 cases h<;>simp[PW.kind]
theorem qH.of{w W:World}{B p g h m:Nat}{A:jA}{n c:Nat}{old:List Ol}{left:List Bool}{a:Int}{e:Ending}{w':World}(hb:eA w W)(x:qH W B p g h m A n c old left a e w'):qH w B p g h m A n c old left a e w':=
 ⟨x.1,x.2.1,(gA.tB hb (W3 p g m)).trans x.2.2 (fun _ _ h=>h)⟩
theorem eU{w:World}{B p g h m:Nat}{A:Option Addr}{n c:Nat}{old:List Ol}{left:List Bool}{F s:Nat}{f:Lit->Option Value}{nl:List Int}(x:Lf w B p g h m A n c old left F s f nl)(t:WV)(hw:VB (er t)):
 Calls prog 129 #[.pointer (some ⟨p,0,none⟩),.agg #[.int .i64 t.kind,.string t.tag,.string t.key,.string t.txt,.slice t.sa.A t.sa.n t.sa.c,.slice t.sk.A t.sk.n t.sk.c]] w (qH w B p g h m A n c old left (ZA (er t) old left old.length).1):=by
 have G:=tp hw;have C:=vt hw;obtain⟨kind,i,d,k,sa,a,sk,T⟩:=t;rw[TE] at G C|-;simp only[WV.kind,WV.tag,WV.key,WV.txt,WV.sa,WV.sk,WV.attrs,WV.kids] at G C|-;generalize oA T=kids at G C|-;obtain⟨H,I,J⟩:=sa;obtain⟨K,L,M⟩:=sk;simp only[PW.kind,PW.tag,PW.key] at G C;have v:Hid (Below w.heap.size w (w.alloc (.cells #[.int .i64 kind,.string i,.string d,.string k,.slice H I J,.slice K L M] 175))):=Zh (Zb _ _);have y:Hid ((w.alloc (.cells #[.int .i64 kind,.string i,.string d,.string k,.slice H I J,.slice K L M] 175)).heap[w.heap.size]? = some (.cells #[.int .i64 kind,.string i,.string d,.string k,.slice H I J,.slice K L M] 175 (0,0))):=Zh (heap_alloc_new w _);have D:=Zh (x.alloc (.cells #[.int .i64 kind,.string i,.string d,.string k,.slice H I J,.slice K L M] 175));have R:Hid (w.heap.size≠p):=Zh (by have:=x.gJ;omega);have U:=Zh C;clear x C hw;go_enter func129,ntmps129;go_upto_region 1 with fail;generalize V:w.heap.size=q at y R v|-;rw[<-V] at v;generalize (w.alloc (.cells #[.int .i64 kind,.string i,.string d,.string k,.slice H I J,.slice K L M] 175))=W at v y D|-;have Y:W.cell? ⟨q,0,none⟩=some (.int .i64 kind):=cell_of_row W q 0 _ _ (0,0) y.out;have Z:W.cell? ⟨q,1,none⟩=some (.string i):=cell_of_row W q 1 _ _ (0,0) y.out;have a2:W.cell? ⟨q,2,none⟩=some (.string d):=cell_of_row W q 2 _ _ (0,0) y.out;obtain⟨X,z⟩:=qA d.toList.isEmpty;rcases G with rfl|rfl|rfl|rfl
 ·obtain⟨N,O,P⟩:=U.out rfl;cases X with
  |false=>
   have l:=Zh (Zc D.out (.mk 1 i d k a kids) rfl N z O P);simp only[PW.tag,PW.key] at l;clear N O P;go_wp2_with fail;refine l.out.mono ?_;rintro e Q r;have u:=Zh (qH.of v.out r);obtain⟨rfl,_⟩:=r;clear l;go_wp2_with fail;go_ret;exact u.out
  |true=>
   have l:=Zh (Qc D.out (.mk 1 i d k a kids) (pS (by rintro⟨_,h⟩;simp only[PW.key] at h;rw[z] at h;cases h)) q (fun o E S=>Wh (.mk 1 i d k a kids) o q E rfl N z (cell_of_row E q 1 _ _ (0,0) ((S.block q (FA y.out) R.out).trans y.out)) (by have:=S.size;have:=FA y.out;omega)));clear N O P;go_wp2_with fail;refine l.out.mono ?_;rintro e Q r;have u:=Zh (qH.of v.out r);obtain⟨rfl,_⟩:=r;clear l;go_wp2_with fail;go_ret;exact u.out
 ·have l:=Zh (Sc D.out (.mk 2 i d k a kids) (pS (by rintro⟨h,_⟩;simp[PW.kind] at h)) (fun o E _=>Xh (.mk 2 i d k a kids) o E rfl));go_wp2_with fail;refine l.out.mono ?_;rintro e Q r;have u:=Zh (qH.of v.out r);obtain⟨rfl,_⟩:=r;clear l;go_wp2_with fail;go_ret;exact u.out
 ·have l:=Zh (Tc D.out (.mk 3 i d k a kids) (pS (by rintro⟨h,_⟩;simp[PW.kind] at h)) (fun o E _=>Yh (.mk 3 i d k a kids) o E rfl));go_wp2_with fail;refine l.out.mono ?_;rintro e Q r;have u:=Zh (qH.of v.out r);obtain⟨rfl,_⟩:=r;clear l;go_wp2_with fail;go_ret;exact u.out
 ·have u:Hid (qH w B p g h m A n c old left (ZA (.mk 4 i d k a kids) old left old.length).1 (.returned (.int .i64 (-1))) W):=Zh (qH.of v.out (by
   have:(ZA (.mk 4 i d k a kids) old left old.length).1 = -1:=UY (fun j _ o _ f=>by simp[EC,PW.kind]) _;rw[this];exact⟨rfl,⟨F,s,f,nl,by rw[XJ];exact D.out⟩,gA.refl _ _⟩))
  go_wp2_with fail;go_ret;exact u.out
structure BV(w:World)(B p g h m:Nat)(A:jA)(n c:Nat)(old:List Ol)(left:List Bool)(s:Nat)(f:Lit->Option Value)(nl:List Int)(q:Nat)(a:Int)(A3:jA)(n3 c3:Nat)(wr:World):Prop where
 lf:Lf wr B p g h m A n c old (WD left q) q s f nl
 own:kI.Own wr w.heap.size (.slice A3 n3 c3) (kD left q)
 fr:(q=n/\a = -1)\/(q<n/\a=(q:Int)/\left[q]? = some true)
 but:gA (W3 p g m) w wr
def tt(w:World)(B p g h m:Nat)(A:jA)(n c:Nat)(old:List Ol)(left:List Bool)(e:Ending)(w':World):Prop:=∃(A3:jA) (n3 c3:Nat),e= .returned (.slice A3 n3 c3)/\kI.Own w' w.heap.size (.slice A3 n3 c3) (kD left n)/\qN w' B p g h m A n c old (List.replicate n false)/\gA (W3 p g m) w w'
theorem C4{w wa wr:World}{B p g h m:Nat}{A:jA}{n c:Nat}{old:List Ol}{left:List Bool}{s:Nat}{f:Lit->Option Value}{nl:List Int}{q F' F0:Nat}{l0:List Bool}{a:Int}{v:Value}(hq:q<=n)(hl:left.length=n)
 (hb:gA (W3 p g m) w wa) (ho:kI.Own wa w.heap.size v (kD left q)) (x0:Lf wa B p g h m A n c old l0 F0 s f nl) (hf:Ic (WD left q) n F' a) (hle:q<=F') (x:Lf wr B p g h m A n c old (WD left q) F' s f nl) (hb2:gA (fun k=>k=p) wa wr):
 Lf wr B p g h m A n c old (WD left F') F' s f nl/\kI.Own wr w.heap.size v (kD left F')/\((F'=n/\a = -1)\/(F'<n/\a=(F':Int)/\left[F']? = some true))/\gA (W3 p g m) w wr:=by
 have o:F'<=n:=x.front;obtain⟨d,j⟩:=LS (left:=left) (q:=q) (F'-q) (fun i b l=>by
  have:=x.gone i cA;rw[WY b cA] at this;exact this) cA
 rw[show q+(F'-q)=F' by omega] at d j;refine⟨by rw[d];exact x,?_,?_,hb.trans (hb2.mono (T:=W3 p g m) (fun _ _ h=> .inl h)) (fun _ _ h=>h)⟩
 ·rw[j];exact ho.but hb2 (fun i r e=>x0.xK ho i r (.inl e))
 ·rcases hf with h|⟨b,l,h3⟩
  ·exact .inl h
  ·rw[WY hle cA] at h3;exact .inr ⟨b,l,h3⟩
theorem ei{S:Nat->Prop}{w W w':World}(h:gA S w W)(hb:Below w.heap.size W w'):gA S w w':=
 h.trans (T:=fun i=>w.heap.size<=i) ⟨hb.os,hb.tape,hb.output,hb.size,fun i _ a=>hb.block i cA⟩ (fun i b c=>by omega)
theorem xW{w:World}{B p g h m:Nat}{A:jA}{n c:Nat}{old:List Ol}{left:List Bool}{F s:Nat}{f:Lit->Option Value}{nl:List Int}(x:Lf w B p g h m A n c old left F s f nl):
 fA 130 #[iA p] w (tt w B p g h m A n c old left):=by
 have H:=Zh (mJ x);have t:=Zh x.QL;have a2:=x.small;have j:=LS (left:=left) (q:=0) F (fun i _ u=>x.gone i cA) (by have:=x.front;have:=x.QL;omega);rw[Nat.zero_add,uW] at j;have X0:Hid (Lf w B p g h m A n c old (WD left F) F s f nl):=Zh (by rw[j.1];exact x);have I0:=Zh j.2;have y:=Zh j.1;have N:=x.front;have I:Hid (B<=w.heap.size/\p<w.heap.size/\g<w.heap.size/\h<w.heap.size/\m<w.heap.size):=Zh ⟨x.le,x.gJ,(x.own.lt rfl).2,(x.nx.lt rfl).2,x.map.lt⟩;clear x j;go_enter func130,ntmps130;go_wp2_with fail;refine H.mono ?_;rintro e w1 ⟨O,a,rfl,b,P,x1,b1⟩;have ST:Hid (BV w B p g h m A n c old left s f nl O a none 0 0 w1):=Zh (by
  obtain⟨z,u,C,Q⟩:=C4 (w:=w) (v:=vA) N t (gA.refl _ _) (by rw[I0.out];exact Kind.Own.nil kI w _) X0 (by rw[y.out];exact b) P (by rw[y.out];exact x1) b1;exact⟨z,u,C,Q⟩)
 clear H b x1 b1 X0 I0 y;go_wp2_with fail
 go_loopg [3,4] (n-O) (fun k s3 s4 wr=>∃(q:Nat) (a:Int) (D:jA) (E G:Nat),k=n-q/\s3= .slice D E G/\s4 = aA a/\Hid (BV w B p g h m A n c old left s f nl q a D E G wr))
 case atStart=>exact⟨O,a,none,0,0,rfl,rfl,rfl,ST⟩
 case round=>
  obtain⟨q,a,D,E,G,rfl,rfl,rfl,d⟩:=hrel;clear ST;rcases d.fr with⟨rfl,rfl⟩|⟨hlt,rfl,hlq⟩
  ·go_wp2_with fail;go_ret;refine⟨D,E,G,rfl,d.own,⟨q,s,f,nl,?_⟩,d.but⟩;have z:=d.lf;have u:=dX left;rw[t.out] at u;rw[u] at z;exact z
  ·have a3:=Zh hlq;have R:q<left.length:=(uA t.out);obtain⟨bb,_,g0,gf⟩:=d.lf.taken hlt;have c1:=d.lf.c1;have T:Hid (Lf (wr.setCell (dA g q) (.bool true)) B p g h m A n c old (WD left (q+1)) q s f nl):=Zh (by
    have:=d.lf.take hlt;rw[cX R] at this;exact this)
   have K:Hid (gA (W3 p g m) w (wr.setCell (dA g q) (.bool true))):=Zh (gA.setCell (S:=W3 p g m) (p:=(dA g q)) d.but (fun _=> .inr (.inl rfl)) _);have L:Hid (kI.Own (wr.setCell (dA g q) (.bool true)) w.heap.size (.slice D E G) (kD left q)):=Zh (d.own.but (mH wr g q (.bool true)) (fun i U e=>d.lf.xK d.own i U (.inr (.inl e))));have IY:=Zh (FT hlq);have a4:=xM left q;have M:=Zh K.size;clear hlq d;go_upto_region 6 with fail;generalize wr.setCell (dA g q) (.bool true)=W at T K L M|-;have LD:Hid (kI.pA (W.alloc (.cells #[aA (q:Int)] 3)) (W.heap.size+1) (some ⟨W.heap.size,0,none⟩) [(q:Int)]):=Zh (Kind.pA.lit (heap_alloc_new W _) rfl);go_upto_region 4 with(at_builtin;refine kI.iC rfl _ _ rfl (v:=.slice D E G) (l:=kD left q) (m:=[(q:Int)]) (B:=w.heap.size) rfl (L.alloc _) rfl rfl RB LD AA (by have:=M.out;simp;omega) ?_;intro v' V o r X;have Y:Hid (Below w.heap.size W V):=Zh ((Ze.alloc M _).grown r (by have:=M.out;simp;omega) (fun i U=>(L.lt U).1));obtain⟨Z,n7,c7,rfl,_,_,_,_,_⟩:=o.slice;have O7:=Zh o;clear o r X);have X7:=Zh (T.below Y I.1 I.2.1 I.2.2.1 I.2.2.2.1 I.2.2.2.2);have J:=Zh (ei K Y);have H:=Zh (mJ X7);clear T K L LD Y;go_wp2_with fail;refine H.mono ?_;rintro e w8 ⟨F8,a8,rfl,b,a1,x8,b8⟩;have a0:q+1<=F8:=by
    rcases b with⟨e,_⟩|⟨_,_,C⟩
    ·omega
    ·by_cases e:F8=q
     ·subst e;rw[Kl cA cA] at C;cases C
     ·omega
   have NR:Hid (BV w B p g h m A n c old left s f nl F8 a8 Z n7 c7 w8):=Zh (by
    obtain⟨z,u,C,Q⟩:=C4 (w:=w) (v:=.slice Z n7 c7) (q:=q+1) hlt t J (by rw[IY.out];exact O7) X7 b a0 x8 b8;exact⟨z,u,C,Q⟩)
   clear b x8 b8 H X7 O7 J;go_wp2_with fail
   go_roundg (n-F8)
   case measure=>omega
   case rel=>exact⟨F8,a8,Z,n7,c7,rfl,rfl,rfl,NR⟩
end P16
namespace P16
open Go.RowKit Kd P4 P5 P11 P12 P13 P14
structure R3(w:World)(s:Ms)(n:Nat)(A1:jA)(n1 c1:Nat)(A2:jA)(n2 c2:Nat)(A3:jA)(n3 c3:Nat):Prop where
 l1:s.take.length=n1
 l2:s.kept.length=n2
 l3:(kD s.left n).length=n3
 h1:kI.pA w w.heap.size A1 s.take
 h2:kI.pA w w.heap.size A2 s.kept
 h3:kI.pA w w.heap.size A3 (kD s.left n)
 k1:n1<=c1
 k2:n2<=c2
 k3:n3<=c3
 z1:A1=none->c1=0
 z2:A2=none->c2=0
 z3:A3=none->c3=0
end P16
namespace P16
open Go.RowKit Kd P4 P5 P11 P12 P13 P14 Mv
structure zH(w w2:World)(B p g h m t0:Nat)(A:jA)(n c:Nat)(old:List Ol)(ws:List PW)(n' j:Nat)(A3:jA)(n3 c3:Nat)(wr:World):Prop where
 lf:qN wr B p g h m A n c old (foldM old (ws.take j)).left
 tk:kI.Own wr w2.heap.size (.slice (some (dA t0 0)) n' n') ((foldM old (ws.take j)).take++List.replicate (n'-j) 0)
 kp:kI.Own wr w2.heap.size (.slice A3 n3 c3) (foldM old (ws.take j)).kept
 ap:(Value.slice A3 n3 c3).ownBlock≠some t0
 res:wr.heap[w.heap.size]? = some (.cells #[vA,vA,vA] 170 (0,0))
 hb:eA w wr
theorem qN.below{w w':World}{C B p g h m:Nat}{A:jA}{n c:Nat}{old:List Ol}{left:List Bool}(x:qN w B p g h m A n c old left)(hb:Below C w w')(h1:B<=C)(h2:p<C)(h3:g<C)(h4:h<C)(h5:m<C):qN w' B p g h m A n c old left:=by
 obtain⟨F,s,f,a,x⟩:=x;exact⟨F,s,f,a,x.below hb h1 h2 h3 h4 h5⟩
theorem Nq{l:List Int}{j r:Nat}(h:l.length=j)(v:Int):(l++List.replicate (r+1) 0).set j v=l++[v]++List.replicate r 0:=by
 subst h;rw[List.set_append_right _ _ Zl,Nat.sub_self,List.replicate_succ,List.set_cons_zero,List.append_assoc];rfl
theorem SM{w:World}{D:Nat}{A:jA}{n c:Nat}{l:List Int}(h:kI.Own w D (.slice A n c) l):l.length=n/\n<=c/\(A=none->c=0)/\kI.pA w w.heap.size A l:=by
 obtain⟨g,i,j,a,b,d,k,e,f⟩:=h.slice;injection a with h1 h2 h3;subst h1;subst h2;subst h3;exact⟨b,d,e,f⟩
theorem tT(w:World)(b:Nat)(u0 u1 u2:Value):gA (fun i=>i=b) w (((w.setCell (dA b 0) u0).setCell (dA b 1) u1).setCell (dA b 2) u2):=
 gA.setCell (S:=fun i=>i=b) (p:=(dA b 2)) (gA.setCell (S:=fun i=>i=b) (p:=(dA b 1)) (gA.setCell (S:=fun i=>i=b) (p:=(dA b 0)) (gA.refl _ _) (fun _=>rfl) _) (fun _=>rfl) _) (fun _=>rfl) _
structure Wn(w:World)(A:jA)(n c:Nat)(ts:List WV):Prop where
 len:ts.length=n
 cap:n<=c
 nil:A=none->c=0
 holds:kW.pA w w.heap.size A ts
 ok:∀t∈ts,MC kW w w.heap.size t
theorem Xr{w:World}{A:jA}{n c:Nat}{ts:List WV}(h:Wm kW w A n c ts):Wn w A n c ts:=⟨h.len,h.cap,h.nil,h.holds,h.ok⟩
def oc(w:World)(s:Ms)(n:Nat)(e:Ending)(w':World):Prop:=∃(A1:jA) (n1 c1:Nat) (A2:jA) (n2 c2:Nat) (A3:jA) (n3 c3:Nat),e= .returned (.agg #[.slice A1 n1 c1,.slice A2 n2 c2,.slice A3 n3 c3])/\R3 w' s n A1 n1 c1 A2 n2 c2 A3 n3 c3/\eA w w'/\kI.Own w' w.heap.size (.slice A1 n1 c1) s.take
theorem yp(old:List Ol)(A:jA)(n c:Nat)(ts:List WV)(A':jA)(n' c':Nat)(w:World)(hh:kO.pA w w.heap.size A old)(hsz:∀o∈old,o.tag.size<=maxLen/\o.key.size<=maxLen)(hn:old.length=n)(hs:n<=1000)(hm:Wn w A' n' c' ts)(hwf:∀t∈oA ts,VB t)(hwt:JC (oA ts)<=1000):
 fA 106 #[.slice A n c,.slice A' n' c'] w (oc w (foldM old (oA ts)) old.length):=by
 have B0:Hid (eA w (w.alloc (.cells #[.slice none 0 0,.slice none 0 0,.slice none 0 0] 170))):=Zh (Zb _ _);have Z:Hid ((w.alloc (.cells #[.slice none 0 0,.slice none 0 0,.slice none 0 0] 170)).heap[w.heap.size]? = some (.cells #[.slice none 0 0,.slice none 0 0,.slice none 0 0] 170 (0,0))):=Zh (heap_alloc_new w _);have ba:=Zh hsz;have HN:=Zh hn;have HH:=Zh hh;have HM:=Zh hm;have bb:=Zh hwf;have R:=hm.len;have HL:=Zh R;have EL:Hid ((oA ts).length=n'):=Zh (by rw[IB];simpa using R);have bq:n'<=1000:=(by have:=aL (oA ts);have:=EL.out;omega);have bc:=vX n' (by omega);clear hh hsz hn hm hwf R hwt;go_enter func106,ntmps106;go_upto_region 1 with fail;generalize w.alloc (.cells #[.slice none 0 0,.slice none 0 0,.slice none 0 0] 170)=w1 at B0 Z|-;have CN:=Zh (se old A n c w1 (HH.out.on B0.out) ba.out HN.out hs);go_wp2_with fail;refine CN.out.mono ?_;rintro e z ⟨p,g,h,m,s,f,nl,rfl,x2,b2⟩;have X2:=Zh x2;have B2:=Zh (B0.out.trans (b2.mono B0.out.size));have R2:=Zh ((b2.block _ (FA Z.out)).trans Z.out);have J:Hid (w.heap.size<w1.heap.size/\w1.heap.size<=z.heap.size/\w1.heap.size<=p/\w1.heap.size<=g/\w1.heap.size<=m):=Zh ⟨FA Z.out,b2.size,x2.Bp,x2.Bg,x2.Bm⟩;have LT:Hid (p<z.heap.size/\g<z.heap.size/\h<z.heap.size/\m<z.heap.size):=Zh ⟨x2.gJ,(x2.own.lt rfl).2,(x2.nx.lt rfl).2,x2.map.lt⟩;clear x2 b2 CN B0 Z;go_upto_region 3 with fail;have XM:=Zh (X2.out.alloc (.cells (madeCells #[.int .i64 0] n') 3));have OM:Hid (kI.Own (z.alloc (.cells (madeCells #[.int .i64 0] n') 3)) z.heap.size (.slice (some ⟨z.heap.size,0,none⟩) n' n') (List.replicate n' 0)):=Zh (Kind.wG (by simp) Zl (heap_alloc_new z _) Zl (by unfold maxLen;omega) (by rw[size_madeCells];exact(Nat.mul_one n').symm) (by rw[toList_madeCells_one,List.take_of_length_le (by simp[kI]),MS]));have ST:Hid (zH w z w1.heap.size p g h m z.heap.size A n c old (oA ts) n' 0 none 0 0 (z.alloc (.cells (madeCells #[.int .i64 0] n') 3))):=Zh {
  lf:=⟨0,s,f,nl,by
   have e:(foldM old ((oA ts).take 0)).left=List.replicate n true:=(by rw[List.take_zero];show List.replicate old.length true=_;rw[HN.out]);rw[e];exact XM.out⟩
  tk:=by
   have e:(foldM old ((oA ts).take 0)).take=[]:=(by rw[List.take_zero];rfl);rw[e,Nat.sub_zero,List.nil_append];exact OM.out
  kp:=by
   have e:(foldM old ((oA ts).take 0)).kept=[]:=(by rw[List.take_zero];rfl);rw[e];exact Kind.Own.nil kI _ _
  ap:=fun e=>by cases e
  res:=oB R2.out
  hb:=B2.out.alloc B2.out.size _}
 clear XM OM X2 B2 R2 bc;generalize br:z.heap.size=u at ST|-;go_wp2_with fail;go_loopw [7,17] (fun s7 a9 wr=>∃(j:Nat) (A3:jA) (n3 c3:Nat),j<=n'/\a9= .int .i64 j/\s7= .slice A3 n3 c3/\Hid (zH w z w1.heap.size p g h m u A n c old (oA ts) n' j A3 n3 c3 wr)) (fun _ a9 _=>n'-(intOf a9).toNat)
 case atStart=>exact⟨0,none,0,0,Nat.zero_le _,rfl,rfl,ST⟩
 case round=>
  obtain⟨j,A3,n3,c3,hj,rfl,rfl,K⟩:=hrel;clear ST;have d:=wN old ((oA ts).take j);have y:=aX old ((oA ts).take j);rw[List.length_take,EL.out,Nat.min_eq_left hj] at d;by_cases bs:j<n'
  ·have a0:j<ts.length:=(by have:=HL.out;omega);have S:j<(oA ts).length:=(by have:=EL.out;omega);have SN:=Zh (pP (old:=old) S);rw[uO a0 S] at SN;have WT:Hid (VB (er ts[j])):=Zh (by rw[<-uO a0 S];exact bb.out _ (List.getElem_mem S));obtain⟨b',o',rfl,N,ao,aq,ar,au,aw,ax⟩:=pT HM.out.holds a0;have y0:=(K.out.hb.cell N).trans ao;have y1:=(K.out.hb.cell N).trans aq;have y2:=(K.out.hb.cell N).trans ar;have y3:=(K.out.hb.cell N).trans au;have y4:=(K.out.hb.cell N).trans aw;have y5:=(K.out.hb.cell N).trans ax;have aa:Hid ((er ts[j]).kind=ts[j].kind):=Zh (by rw[TE];rfl);clear ao aq ar au aw ax S;generalize ts[j]=t at y0 y1 y2 y3 y4 y5 SN WT aa;clear a0;generalize ay:foldM old ((oA ts).take j)=st at SN d y;have T:=K.out.tk;have KP:=K.out.kp;have LF:=K.out.lf;rw[ay] at T KP LF;obtain⟨x,b,E⟩:=st;simp only at T KP LF d y;have ab:Hid (b.length=j):=Zh d.1;have bd:Hid (E.length<=1000000):=Zh (by
    have h1:j*old.length<=1000*1000:=Nat.mul_le_mul (by omega) (by have:=HN.out;omega);omega)
   have bt:Hid (x.length=n):=Zh (by have:=HN.out;omega);clear ay d y;go_upto_region 7 with fail;have BW:Hid (eA w (wr.alloc (.cells #[.int .i64 t.kind,.string t.tag,.string t.key,.string t.txt,.slice t.sa.A t.sa.n t.sa.c,.slice t.sk.A t.sk.n t.sk.c] 175))):=Zh (K.out.hb.alloc K.out.hb.size _);have U:Hid ((wr.alloc (.cells #[.int .i64 t.kind,.string t.tag,.string t.key,.string t.txt,.slice t.sa.A t.sa.n t.sa.c,.slice t.sk.A t.sk.n t.sk.c] 175)).heap[wr.heap.size]? = some (.cells #[.int .i64 t.kind,.string t.tag,.string t.key,.string t.txt,.slice t.sa.A t.sa.n t.sa.c,.slice t.sk.A t.sk.n t.sk.c] 175 (0,0))):=Zh (heap_alloc_new wr _);obtain⟨F,s',f',be,lf⟩:=LF;have XW:=Zh (lf.alloc (.cells #[.int .i64 t.kind,.string t.tag,.string t.key,.string t.txt,.slice t.sa.A t.sa.n t.sa.c,.slice t.sk.A t.sk.n t.sk.c] 175));have V:=Zh (T.alloc (.cells #[.int .i64 t.kind,.string t.tag,.string t.key,.string t.txt,.slice t.sa.A t.sa.n t.sa.c,.slice t.sk.A t.sk.n t.sk.c] 175));have a1:=Zh (KP.alloc (.cells #[.int .i64 t.kind,.string t.tag,.string t.key,.string t.txt,.slice t.sa.A t.sa.n t.sa.c,.slice t.sk.A t.sk.n t.sk.c] 175));have RW:Hid ((wr.alloc (.cells #[.int .i64 t.kind,.string t.tag,.string t.key,.string t.txt,.slice t.sa.A t.sa.n t.sa.c,.slice t.sk.A t.sk.n t.sk.c] 175)).heap[w.heap.size]? = some (.cells #[.slice none 0 0,.slice none 0 0,.slice none 0 0] 170 (0,0))):=Zh (oB K.out.res);have AP:=Zh K.out.ap;have B9:Hid (u<wr.heap.size/\p<wr.heap.size/\g<wr.heap.size/\m<wr.heap.size/\z.heap.size<=u):=Zh ⟨(T.lt (g:=u) rfl).2,lf.gJ,(lf.own.lt (g:=g) rfl).2,lf.map.lt,(T.lt (g:=u) rfl).1⟩;clear T KP lf K y0 y1 y2 y3 y4 y5;generalize wr.heap.size=C at U B9|-;generalize (wr.alloc (.cells #[.int .i64 t.kind,.string t.tag,.string t.key,.string t.txt,.slice t.sa.A t.sa.n t.sa.c,.slice t.sk.A t.sk.n t.sk.c] 175))=W at BW U XW V a1 RW|-;have z0:W.cell? (dA C 0)=some (.int .i64 t.kind):=cell_of_row W C 0 _ _ (0,0) U.out;have z1:W.cell? (dA C 1)=some (.string t.tag):=cell_of_row W C 1 _ _ (0,0) U.out;have z2:W.cell? (dA C 2)=some (.string t.key):=cell_of_row W C 2 _ _ (0,0) U.out;have z3:W.cell? (dA C 3)=some (.string t.txt):=cell_of_row W C 3 _ _ (0,0) U.out;have z4:W.cell? (dA C 4)=some (.slice t.sa.A t.sa.n t.sa.c):=cell_of_row W C 4 _ _ (0,0) U.out;have z5:W.cell? (dA C 5)=some (.slice t.sk.A t.sk.n t.sk.c):=cell_of_row W C 5 _ _ (0,0) U.out;have CT:=Zh (eU XW.out t WT.out);obtain⟨L,ac⟩:=qA ((ZA (er t) old x old.length).1);have ad:Hid ((t.kind=4->foldM old ((oA ts).take (j+1))=⟨List.replicate old.length false,b++[L],E++kD (AE x L) old.length⟩)/\(¬t.kind=4->foldM old ((oA ts).take (j+1))=⟨AE x L,b++[L],E⟩)):=Zh (by
    rw[SN.out,pF,aa.out];simp only[ac];exact⟨fun h=>by rw[if_pos h],fun h=>by rw[if_neg h]⟩)
   rw[ac] at CT;clear ac SN aa;obtain⟨r,hr⟩:∃r,n'-j=r+1:=⟨n'-j-1,by omega⟩;rw[hr] at V;have az:Hid (n'-(j+1)=r):=Zh (by omega);clear hr;go_wp2_with fail;refine CT.out.mono ?_;rintro e w7 ⟨rfl,b0,b7⟩;have b1:=Zh b0;have ae:=Zh (V.out.but b7 (XW.out.xK V.out));have b3:=Zh (a1.out.but b7 (XW.out.xK a1.out));have af:=Zh ((b7.block C (FA U.out) (fun e=>by have:=B9.out;rcases e with e|e|e<;>omega)).trans U.out);have R7:=Zh ((b7.block _ (FA RW.out) (fun e=>by have:=J.out;rcases e with e|e|e<;>omega)).trans RW.out);have b4:Hid (eA w w7):=Zh (BW.out.trans (b7.AB (fun i _ e=>by have:=J.out;rcases e with e|e|e<;>omega) BW.out.size));obtain⟨f7,c7,a8⟩:=qS ae.out (k:=j) (by have:=ab.out;simp;omega) L;obtain⟨u7,bf⟩:=Option.isSome_iff_exists.1 c7;have hS:Below z.heap.size w7 (w7.setCell (dA u j) (.int .i64 L)):=(mH w7 u j _).AB (fun i _ e=>by have:=B9.out;omega) (by have:=(ae.out.lt (g:=u) rfl);omega);have a2:=Zh (b1.out.below hS J.out.2.1 LT.out.1 LT.out.2.1 LT.out.2.2.1 LT.out.2.2.2);have a3:Hid (kI.Own (w7.setCell (dA u j) (.int .i64 L)) z.heap.size (.slice (some (dA u 0)) n' n') ((b++[L])++List.replicate r 0)):=Zh (by rw[<-Nq ab.out L];exact a8);have a4:=Zh (b3.out.but (mH w7 u j (.int .i64 L)) (fun i O e=>AP.out (by rw[O,e])));have b5:=Zh (((mH w7 u j (.int .i64 L)).block C (FA af.out) (fun e=>by have:=B9.out;omega)).trans af.out);have R8:=Zh (((mH w7 u j (.int .i64 L)).block w.heap.size (FA R7.out) (fun e=>by have:=B9.out;have:=J.out;omega)).trans R7.out);have a5:Hid (eA w (w7.setCell (dA u j) (.int .i64 L))):=Zh (b4.out.trans (hS.mono (by have:=J.out;omega)));clear b7 b0 c7 a8 hS CT z0 z1 z2 z3 z4 z5 V a1 XW RW BW U;go_upto_region 8 with fail;clear f7 bf ae b3 b1 af R7 b4;generalize w7.setCell (dA u j) (.int .i64 L)=w8 at a2 a3 a4 b5 R8 a5|-;have z0:w8.cell? (dA C 0)=some (.int .i64 t.kind):=cell_of_row w8 C 0 _ _ (0,0) b5.out;by_cases h4:t.kind=4
   ·rw[h4] at z0;have ag:=ad.out.1 h4;rw[HN.out] at ag;have M:=Zh ag;clear ag;obtain⟨F8,s8,f8,bu,ah⟩:=a2.out;have L8:=Zh ah;have CA:=Zh (xW ah);clear ah a2 ad;go_wp2_with fail;refine CA.out.mono ?_;rintro e G ⟨A4,n4,c4,rfl,H,a6,X⟩;have O4:=Zh H;have bg:=Zh a6;have I:=Zh (a3.out.but X (L8.out.xK a3.out));have P:=Zh (a4.out.but X (L8.out.xK a4.out));have R9:=Zh ((X.block _ (FA R8.out) (fun e=>by have:=J.out;rcases e with e|e|e<;>omega)).trans R8.out);have a7:Hid (eA w G):=Zh (a5.out.trans (X.AB (fun i _ e=>by have:=J.out;rcases e with e|e|e<;>omega) a5.out.size));have ai:Hid (u<G.heap.size/\z.heap.size<=G.heap.size):=Zh ⟨(I.out.lt (g:=u) rfl).2,by have:=(I.out.lt (g:=u) rfl);omega⟩;have OS:=O4.out.slice;obtain⟨A',m',d',hv,e1,e2,e3,e4,e5⟩:=OS;injection hv with q1 q2 q3;subst q1;subst q2;subst q3;have E1:=Zh e1;have E4:=Zh e4;have E5:=Zh e5;have bh:=xM (AE x L) n;rw[e1] at bh;clear X a6 H e1 e2 e3 e4 e5 z0 CA;go_upto_region 10 with(at_builtin;refine kI.iC rfl _ _ rfl (v:=.slice A3 n3 c3) (l:=E) (m:=kD (AE x L) n) (B:=z.heap.size) (A:=A4) (n:=n4) (c:=c4) rfl P.out rfl E1.out E4.out E5.out (by have:=bd.out;omega) ai.out.2 ?_;intro v' aj Y D b6;obtain⟨A5,n5,c5,rfl,_,_,_,_,_⟩:=Y.slice;have bi:=Zh Y;have b8:Hid (Below z.heap.size G aj):=Zh (Ze.grown D ai.out.2 (fun i O=>(P.out.lt O).1));have bj:=Zh (I.out.grown D (fun i O e=>AP.out (by rw[e,<-O];rfl)));have bk:=Zh ((D.block _ (FA R9.out) (fun e=>by have:=(P.out.lt e.symm).1;have:=J.out;omega)).trans R9.out);have bl:Hid ((Value.slice A5 n5 c5).ownBlock≠some u):=Zh (fun e=>b6.elim (fun q=>AP.out (q.symm.trans e)) (fun q=>by have:=ai.out;rw[q] at e;have:=Option.some.inj e;omega));clear Y D b6);have bm:=Zh (bg.out.below b8.out J.out.2.1 LT.out.1 LT.out.2.1 LT.out.2.2.1 LT.out.2.2.2);have bn:Hid (eA w aj):=Zh (a7.out.trans (b8.out.mono (by have:=J.out;omega)));have ak:Hid (zH w z w1.heap.size p g h m u A n c old (oA ts) n' (j+1) A5 n5 c5 aj):=Zh {
     lf:=by rw[M.out];exact bm.out
     tk:=by rw[M.out,az.out];exact bj.out
     kp:=by rw[M.out];exact bi.out
     ap:=bl.out
     res:=bk.out
     hb:=bn.out}
    go_wp2_with fail;go_roundw
    case rel=>exact⟨j+1,A5,n5,c5,by omega,by go_num,rfl,ak⟩
    case measure=>simp[intOf];omega
   ·have M:=Zh (ad.out.2 h4);have q4:=int_ne h4;have ak:Hid (zH w z w1.heap.size p g h m u A n c old (oA ts) n' (j+1) A3 n3 c3 w8):=Zh {
     lf:=by rw[M.out];exact a2.out
     tk:=by rw[M.out,az.out];exact a3.out
     kp:=by rw[M.out];exact a4.out
     ap:=AP.out
     res:=R8.out
     hb:=a5.out}
    go_wp2_with fail;go_roundw
    case rel=>exact⟨j+1,A3,n3,c3,by omega,by go_num,rfl,ak⟩
    case measure=>simp[intOf];omega
  ·obtain rfl:j=n':=by omega
   have e:(oA ts).take j=oA ts:=List.take_of_length_le (by have:=EL.out;omega);rw[e] at d y;have Q:=K.out;have T:=Q.tk;have KP:=Q.kp;obtain⟨F,s',f',be,lf⟩:=Q.lf;rw[e] at T KP lf;rw[Nat.sub_self,List.replicate_zero,List.append_nil] at T;have al:=Zh T;have am:=Zh KP;have L0:=Zh lf;have Z:=Zh Q.res;have an:=Zh Q.hb;have CA:=Zh (xW lf);have bo:Hid (w.heap.size<wr.heap.size):=Zh (FA Z.out);have ab:Hid ((foldM old (oA ts)).take.length=j):=Zh d.1;clear K Q T KP lf e y d;go_wp2_with fail;refine CA.out.mono ?_;rintro e G ⟨A4,n4,c4,rfl,H,a6,C⟩;have O4:=Zh H;have I:=Zh (al.out.but C (L0.out.xK al.out));have P:=Zh (am.out.but C (L0.out.xK am.out));have R9:=Zh ((C.block _ (FA Z.out) (fun e=>by have:=J.out;rcases e with e|e|e<;>omega)).trans Z.out);have a7:Hid (eA w G):=Zh (an.out.trans (C.AB (fun i _ e=>by have:=J.out;rcases e with e|e|e<;>omega) an.out.size));have bp:w.heap.size<G.heap.size:=FA R9.out;have r0:G.cell? ⟨w.heap.size,0,none⟩=some (.slice none 0 0):=cell_of_row G _ 0 _ _ (0,0) R9.out;have r1:G.cell? ⟨w.heap.size,1,none⟩=some (.slice none 0 0):=cell_of_row G _ 1 _ _ (0,0) R9.out;have r2:G.cell? ⟨w.heap.size,2,none⟩=some (.slice none 0 0):=cell_of_row G _ 2 _ _ (0,0) R9.out;have rf:∀i,G.frozen? ⟨w.heap.size,i,none⟩=false:=fun i=>by have hb:=R9.out;simp[World.frozen?,hb]
   clear H a6 C CA al am L0 Z an;go_wp2_with fail;refine bodyPost_ret (v:=.agg #[.slice (some (dA u 0)) j j,.slice A3 n3 c3,.slice A4 n4 c4]) (by simp[results,results106,go_sem,r0,r1,r2,bp]) rfl ⟨_,_,_,_,_,_,_,_,_,rfl,?_,?_,?_⟩
   ·have hb:=tT G w.heap.size (.slice (some (dA u 0)) j j) (.slice A3 n3 c3) (.slice A4 n4 c4);have h1:=SM (I.out.but hb (fun i O e=>by have:=(I.out.lt O).1;have:=J.out;omega));have h2:=SM (P.out.but hb (fun i O e=>by have:=(P.out.lt O).1;have:=J.out;omega));have h3:=SM (O4.out.but hb (fun i O e=>by have:=(O4.out.lt O).1;have:=bo.out;omega));rw[<-HN.out] at h3;exact⟨h1.1,h2.1,h3.1,h1.2.2.2,h2.2.2.2,h3.2.2.2,h1.2.1,h2.2.1,h3.2.1,h1.2.2.1,h2.2.2.1,h3.2.2.1⟩
   ·exact a7.out.trans ((tT G w.heap.size _ _ _).AB (fun i _ e=>by omega) a7.out.size)
   ·have hb:=tT G w.heap.size (.slice (some (dA u 0)) j j) (.slice A3 n3 c3) (.slice A4 n4 c4);exact(I.out.but hb (fun i O e=>by have:=(I.out.lt O).1;have:=J.out;omega)).dE (by have:=J.out;omega)
end P16
namespace P14
open Go.RowKit Kd P4 P5 P11 P12 P13
def WB(w:World)(g:Nat)(t:WV):Prop:=w.heap[g]? = some (.cells (mC t) 175 (0,0))
section
variable{w w':World}{g C:Nat}{t:WV}
theorem WB.new(w:World)(t:WV):WB (w.alloc (.cells (mC t) 175)) w.heap.size t:=heap_alloc_new w _
theorem WB.lt(h:WB w g t):g<w.heap.size:=FA h
theorem WB.below(h:WB w g t)(hb:Below C w w')(hC:g<C):WB w' g t:=(hb.block g hC).trans h
theorem WB.c0(h:WB w g t):w.cell? (dA g 0)=some (aA t.kind):=cell_of_row w g 0 _ _ (0,0) h
theorem WB.c1(h:WB w g t):w.cell? (dA g 1)=some (bA t.tag):=cell_of_row w g 1 _ _ (0,0) h
theorem WB.c2(h:WB w g t):w.cell? (dA g 2)=some (bA t.key):=cell_of_row w g 2 _ _ (0,0) h
theorem WB.c3(h:WB w g t):w.cell? (dA g 3)=some (bA t.txt):=cell_of_row w g 3 _ _ (0,0) h
theorem WB.c4(h:WB w g t):w.cell? (dA g 4)=some (.slice t.sa.A t.sa.n t.sa.c):=cell_of_row w g 4 _ _ (0,0) h
theorem WB.c5(h:WB w g t):w.cell? (dA g 5)=some (.slice t.sk.A t.sk.n t.sk.c):=cell_of_row w g 5 _ _ (0,0) h
theorem WB.fr(h:WB w g t)(k:Nat):w.frozen? (dA g k)=false:=by simp[World.frozen?,(show w.heap[g]? = _ from h)]
end
def ER(ts:List WV):Prop:=∀(w:World) (A:jA) (n c:Nat),kW.pA w w.heap.size A ts->ts.length=n->(∀t∈ts,MC kW w w.heap.size t)->JC (oA ts)<=1000->
 fA 103 #[.slice A n c] w fun e w'=>e= .returned (aA (fB (oA ts):Nat))/\eA w w'
theorem Q4(ts:List WV)(IH:∀t∈ts,ER t.kids):ER ts:=by
 intro w A n c G u l H;have Q:=Zh G;have R:=Zh u;have S:=Zh l;have T:=Zh IH;have v:Hid ((oA ts).length=n):=Zh (by rw[IB];simpa using u);have I:Hid (∀k,fB ((oA ts).take k)<=100000):=Zh (fun k=>by
  have q:=uU ((oA ts).take k);have r:JC (oA ts)=JC ((oA ts).take k)+JC ((oA ts).drop k):=(by rw[<-uS,List.take_append_drop]);omega)
 have U:=Zh H;have V:n<=100000:=(by have:=aL (oA ts);have:=v.out;omega);clear G u l H IH;go_enter func103,ntmps103;go_wp2_with fail;go_loopw [3,8] (fun W y wr=>∃(k:Nat),k<=n/\y = aA k/\W = aA (fB ((oA ts).take k):Nat)/\Hid (eA w wr)) (fun _ y _=>n-(intOf y).toNat)
 case atStart=>exact⟨0,by omega,rfl,by simp[fB],Zh Ze⟩
 case round=>
  obtain⟨k,hk,rfl,rfl,i⟩:=hrel;by_cases X:k<n
  ·have g:k<ts.length:=(uA R.out);have p:k<(oA ts).length:=(uA v.out);have a:=Zh (BP p);rw[uO g p,MY] at a;have z:=I k;have f:=I (k+1);obtain⟨b,o,rfl,hb,J,K,L,M,N,O⟩:=pT (Q.on i) g;have B:Hid (∀j,eA wr j->fA 103 #[.slice ts[k].sk.A ts[k].sk.n ts[k].sk.c] j fun e w'=>e= .returned (aA (fB (oA ts[k].kids):Nat))/\eA j w'):=Zh (fun j Y=>by
    have C:=(S _ (List.getElem_mem g)).on (i.trans (Y.mono i.size));exact T _ (List.getElem_mem g) j _ _ _ C.kh C.kl C.ks (by have:=U1 (List.getElem_mem g);have:=U.out;omega))
   generalize ts[k]=d at J K L M N O B a;generalize fB (oA d.kids)=dk at B a;generalize fB ((oA ts).take k)=m at a z|-;rw[a.out] at f;go_upto_region 5 with fail;have D:=Zh (WB.new wr d);have E:Hid (eA wr (wr.alloc (.cells (mC d) 175))):=Zh (Zb _ _);generalize wr.alloc (.cells (mC d) 175)=Z at D E|-;clear J K L M N O;have a0:=D.c0;have a5:=D.c5;have s:=Zh (i.trans (E.mono i.size));obtain⟨kind,F⟩:=qA d.kind;rw[F] at a0 a f;by_cases r:kind=2
   ·subst r;rw[if_pos rfl] at a f;go_wp2_with fail;go_roundw
    case rel=>exact⟨k+1,by omega,by go_num,by rw[a.out];go_num,s⟩
    case measure=>simp[intOf];omega
   ·have q2:=int_ne r;rw[if_neg r] at a f;by_cases q:kind=1
    ·subst q;rw[if_pos rfl] at a f;go_wp2_with fail;refine(B Z E).mono ?_;rintro e w2 ⟨rfl,P⟩;have B2:=Zh (s.trans (P.mono s.size));clear P;go_wp2_with fail;go_roundw
     case rel=>exact⟨k+1,by omega,by go_num,by rw[a.out];go_num,B2⟩
     case measure=>simp[intOf];omega
    ·have q1:=int_ne q;rw[if_neg q] at a f;go_wp2_with fail;go_roundw
     case rel=>exact⟨k+1,by omega,by go_num,by rw[a.out];rfl,s⟩
     case measure=>simp[intOf];omega
  ·obtain rfl:k=n:=cA
   go_wp2_with fail;go_ret;exact⟨by rw[List.take_of_length_le (uA v.out)];rfl,i⟩
theorem Vf:∀t:WV,ER t.kids:=by
 intro t
 induction t using WV.ind with
 |h kind tag key txt sa attrs sk kids ih=>exact Q4 kids ih
theorem xi(ts:List WV):ER ts:=Q4 ts (fun t _=>Vf t)
section
variable{w w1 w2:World}
end
section
variable{B g:Nat}{t:WV}{A:jA}{n c:Nat}{acc:List In}{w wz:World}
end
structure Rs(w:World)(C:Nat)(A:jA)(n c:Nat)(l:List In):Prop where
 len:l.length=n
 cap:n<=c
 cm:c<=maxLen
 n1:n<=1000
 holds:kX.pA w C A l
section
variable{w w':World}{C:Nat}{A:jA}{n c:Nat}{l:List In}
theorem Rs.below(h:Rs w C A n c l)(hb:eA w w')(hC:C<=w.heap.size):Rs w' C A n c l:=⟨h.len,h.cap,h.cm,h.n1,h.holds.below hb hC⟩
theorem Rs.back(h:Rs w' C A n c l)(hb:eA w w')(hC:C<=w.heap.size):Rs w C A n c l:=⟨h.len,h.cap,h.cm,h.n1,h.holds.sB fun b _ a=>(hb.block b cA).symm⟩
theorem Rs.cons{x:In}{r:List In}(h:Rs w C A n c (x:: r)):∃b o,A=some (dA b o)/\b<C/\w.cell? (dA b o)=some (aA x.op)/\w.cell? ⟨b,o+1,none⟩=some (bA x.a)/\w.cell? ⟨b,o+2,none⟩=some (bA x.b)/\r.length+1=n/\0<n/\
 (c=1->Rs w C (some (dA b o)) 0 0 r)/\(¬c=1->Rs w C (some ⟨b,o+3,none⟩) (n-1) (c-1) r):=by
 have f:r.length+1=n:=(by have:=h.len;simpa using this);have d:=h.cap;have g:=h.cm;have i:=h.n1;obtain⟨b,o,rfl,j,a⟩:=h.holds.at (k:=0) DA;have l:kX.pA w C (some ⟨b,o+3,none⟩) r:=by
  have:=h.holds.drop 1;simpa[kX] using this
 refine⟨b,o,rfl,j,?_,?_,?_,f,by omega,fun e=>?_,fun e=>⟨by omega,by omega,by omega,by omega,l⟩⟩
 ·have:=a 0 _ rfl;simpa using this
 ·have:=a 1 _ rfl;simpa using this
 ·have:=a 2 _ rfl;simpa using this
 ·have:r=[]:=List.eq_nil_of_length_eq_zero cA;subst this;exact⟨rfl,Zl,by unfold maxLen;omega,by omega,Kind.pA.nil _ _ _⟩
end
def EV(w:World)(C:Nat)(ats:List P3.At)(rest:List In)(e:Ending)(w':World):Prop:=∃(A:jA) (n c:Nat) (A2:jA) (n2 c2:Nat),e= .returned (.tuple #[.slice A n c,.slice A2 n2 c2])/\kA.Own w' w.heap.size (.slice A n c) ats/\Rs w C A2 n2 c2 rest/\eA w w'
def pc(w:World)(C:Nat)(ats:List P3.At)(rest:List In)(s0 s4:Value)(wr:World):Prop:=∃(dn td:List P3.At) (A:jA) (n c:Nat) (A':jA) (n' c':Nat),s0= .slice A n c/\s4= .slice A' n' c'/\Hid (dn++td=ats)/\Hid (Rs w C A n c (td.map dC++rest))/\Hid (kA.Own wr w.heap.size (.slice A' n' c') dn)/\Hid (dn.length+n<=1000)/\Hid (eA w wr)
theorem lW(ats:List P3.At)(rest:List In)(A:jA)(n c C:Nat)(w:World)(hr:zG rest)(h:Rs w C A n c (ats.map dC++rest))(hC:C<=w.heap.size):fA 187 #[.slice A n c] w (EV w C ats rest):=by
 have ST:Hid (pc w C ats rest (.slice A n c) (vA) w):=Zh ⟨[],ats,A,n,c,none,0,0,rfl,rfl,Zh rfl,Zh h,Zh (Kind.Own.nil kA w _),Zh (by have:=h.n1;simp;omega),Zh Ze⟩;have HR:=Zh hr;have Y:C<=w.heap.size:=hC;clear h hr;go_enter func187,ntmps187;go_wp2_with fail;go_loopw [0,4] (fun s0 s4 wr=>pc w C ats rest s0 s4 wr) (fun s0 _ _=>match s0 with| .slice _ n _=>n|_=>0)
 case atStart=>exact ST
 case round=>
  obtain⟨H,L,A,n,c,A',n',c',rfl,rfl,HA,O,P,HN,z⟩:=hrel;clear ST;have a7:=O.n1;have a8:=O.cap;have a2:=O.cm;have I:w.heap.size<=wr.heap.size:=z.size;have a5:C<=wr.heap.size:=Nat.le_trans Y I;cases L with
  |nil=>
   have HE:Hid (H=ats):=Zh (by have:=HA.out;simpa using this);have t:=Zh O.out;clear O HA;cases rest with
   |nil=>
    obtain rfl:n=0:=by have:=t.len;simpa using this.symm
    go_wp2_with fail;go_ret2;exact⟨A',n',c',A,0,c,rfl,by rw[<-HE.out];exact P,t,z⟩
   |cons y r=>
    obtain⟨b,o,rfl,hb,F,_,_,hl,h0,_,_⟩:=(t.below z Y).cons;have ht:JB y.op=false:=HR y rfl;have M:Hid (fA 171 #[aA y.op] wr fun e w'=>e= .returned (.bool false)/\eA wr w'):=Zh (by
     have:=NU y.op wr;rw[show AO y.op=false by rw[<-ht];exact Bool.eq_iff_iff.2 (by simp[AO,JB])] at this;exact this)
    have HY:=Zh ht;clear ht hl;go_wp2_with fail;refine M.mono ?_;rintro e N ⟨rfl,D⟩;have f:=Zh (z.trans (D.mono I));have J:=Zh (P.below D Zl);clear D M z P;go_wp2_with fail;go_ret2;exact⟨A',n',c',_,n,c,rfl,by rw[<-HE.out];exact J,t,f⟩
  |cons a L=>
   obtain⟨u,x,st⟩:=a;have K:Hid ((H++[⟨u,x,st⟩])++L=ats):=Zh (by rw[<-HA.out];simp);have t:=Zh O.out;have a9:H.length+n<=1000:=HN;clear HA O HN;obtain⟨b,o,rfl,hb,Z,a0,a1,hl,h0,q,s⟩:=t.cons;have G:Hid (∀k,eA w k->k.cell? (dA b o)=some (aA (if st then 6 else 5))/\k.cell? ⟨b,o+1,none⟩=some (bA u)/\k.cell? ⟨b,o+2,none⟩=some (bA x)):=Zh (fun k Q=>⟨(Q.cell (by show b<_;omega)).trans Z,(Q.cell (by show b<_;omega)).trans a0,(Q.cell (by show b<_;omega)).trans a1⟩);have q:=Zh q;have s:=Zh s;clear Z a0 a1 hl t;have i0:(0:Int)<(n:Int):=cA;have i1:(1:Int)<=(n:Int):=cA;have i2:(n:Int)<=(c:Int):=cA;have a6:c<=9223372036854775807:=(by unfold maxLen at a2;omega);cases st
   ·have G:=G.out;have M:=Zh (NU 5 wr);obtain⟨F,R,S⟩:=G wr z;simp only[Bool.false_eq_true,if_false,if_true] at F;have p:Hid (∀k,eA w k->k.cell? (dA b o)=some (aA 5)/\k.cell? ⟨b,o+1,none⟩=some (bA u)/\k.cell? ⟨b,o+2,none⟩=some (bA x)):=Zh (fun k Q=>by have:=G k Q;simpa using this);clear G;go_wp2_with fail;refine M.mono ?_;rintro e N ⟨rfl,D⟩;have f:=Zh (z.trans (D.mono I));have J:=Zh (P.below D Zl);have a3:w.heap.size<=N.heap.size:=f.size;clear D M z P F R S;obtain⟨F,R,S⟩:=p N f;have T:=p N f;go_upto_region 3 with fail;go_region_held3 (fun w'=>w'.cell? (dA b o)=some (aA 5)/\w'.cell? ⟨b,o+1,none⟩=some (bA u)/\w'.cell? ⟨b,o+2,none⟩=some (bA x)) (first|go_keep|exact T) ((first
     |(refine kA.tG rfl (.tmp 15) (.tmp 30) rfl (v:=.slice A' n' c') (l:=H) (m:=[⟨u,x,false⟩]) (B:=w.heap.size) rfl (by repeat (first|exact J|refine Kind.Own.alloc ?_ _|refine Kind.Own.drewN ?_ _|refine Kind.Own.drew ?_)) rfl rfl RB (Kind.pA.lit (by first|exact heap_alloc_new _ _|exact heap_drew (lD rfl)|exact lD rfl) rfl) cA (by have:=f.size;simp;omega) ?_;intro v' E d g U;obtain⟨A6,n6,c6,rfl,_,_,_,_,_⟩:=d.slice;have O6:=Zh d;have V:Hid (eA w E):=Zh (Below.grown (by first|exact(f.alloc f.size _).drew|exact f.alloc f.size _|exact(f.drew).alloc (by simpa using f.size) _) g (by have:=f.size;simp;omega) (fun i hi=>(J.lt hi).1));have T:=p E V;clear d g U)
     |fail))
    clear T p F R S f J;by_cases j:c=1
    ·have W:=Zh (q j);subst j;obtain rfl:n=1:=cA
     clear q s;go_wp2_with fail;go_roundw
     case rel=>exact⟨H++[⟨u,x,false⟩],L,_,0,0,A6,n6,c6,rfl,rfl,K,W,O6,Zh AA,V⟩
     case measure=>exact Nat.one_pos
    ·have X:=Zh (s j);have a4:¬c-1=0:=cA;clear q s;go_wp2_with fail;go_roundw
     case rel=>exact⟨H++[⟨u,x,false⟩],L,_,n-1,c-1,A6,n6,c6,rfl,rfl,K,X,O6,Zh AA,V⟩
     case measure=>exact Nat.sub_lt h0 Nat.one_pos
   ·have G:=G.out;have M:=Zh (NU 6 wr);obtain⟨F,R,S⟩:=G wr z;simp only[Bool.false_eq_true,if_false,if_true] at F;have p:Hid (∀k,eA w k->k.cell? (dA b o)=some (aA 6)/\k.cell? ⟨b,o+1,none⟩=some (bA u)/\k.cell? ⟨b,o+2,none⟩=some (bA x)):=Zh (fun k Q=>by have:=G k Q;simpa using this);clear G;go_wp2_with fail;refine M.mono ?_;rintro e N ⟨rfl,D⟩;have f:=Zh (z.trans (D.mono I));have J:=Zh (P.below D Zl);have a3:w.heap.size<=N.heap.size:=f.size;clear D M z P F R S;obtain⟨F,R,S⟩:=p N f;have T:=p N f;go_upto_region 3 with fail;go_region_held3 (fun w'=>w'.cell? (dA b o)=some (aA 6)/\w'.cell? ⟨b,o+1,none⟩=some (bA u)/\w'.cell? ⟨b,o+2,none⟩=some (bA x)) (first|go_keep|exact T) ((first
     |(refine kA.tG rfl (.tmp 15) (.tmp 30) rfl (v:=.slice A' n' c') (l:=H) (m:=[⟨u,x,true⟩]) (B:=w.heap.size) rfl (by repeat (first|exact J|refine Kind.Own.alloc ?_ _|refine Kind.Own.drewN ?_ _|refine Kind.Own.drew ?_)) rfl rfl RB (Kind.pA.lit (by first|exact heap_alloc_new _ _|exact heap_drew (lD rfl)|exact lD rfl) rfl) cA (by have:=f.size;simp;omega) ?_;intro v' E d g U;obtain⟨A6,n6,c6,rfl,_,_,_,_,_⟩:=d.slice;have O6:=Zh d;have V:Hid (eA w E):=Zh (Below.grown (by first|exact(f.alloc f.size _).drew|exact f.alloc f.size _|exact(f.drew).alloc (by simpa using f.size) _) g (by have:=f.size;simp;omega) (fun i hi=>(J.lt hi).1));have T:=p E V;clear d g U)
     |fail))
    clear T p F R S f J;by_cases j:c=1
    ·have W:=Zh (q j);subst j;obtain rfl:n=1:=cA
     clear q s;go_wp2_with fail;go_roundw
     case rel=>exact⟨H++[⟨u,x,true⟩],L,_,0,0,A6,n6,c6,rfl,rfl,K,W,O6,Zh AA,V⟩
     case measure=>exact Nat.one_pos
    ·have X:=Zh (s j);have a4:¬c-1=0:=cA;clear q s;go_wp2_with fail;go_roundw
     case rel=>exact⟨H++[⟨u,x,true⟩],L,_,n-1,c-1,A6,n6,c6,rfl,rfl,K,X,O6,Zh AA,V⟩
     case measure=>exact Nat.sub_lt h0 Nat.one_pos
end P14
namespace P20
open P5 P19
section
variable{l l':List Nd}{a b c y:Int}{d d':D}
end
end P20
namespace P20
open P5 P14 P16 P19
section
variable{l l' l2 l2':List Nd}{i:Int}
end
section
variable{s s' s2:Sg}{i par b:Int}
end
end P20
namespace P14
open Go.RowKit Kd P4 P5 P11 P12 P13
attribute [local go_sem ↓] Go.wp_at_zero Go.wp_at_succ
def EF:WV:=.mk 0 ⟨#[]⟩ ⟨#[]⟩ ⟨#[]⟩ ⟨none,0,0⟩ [] ⟨none,0,0⟩ []
def tK(w:World)(C:Nat)(t:PW)(rest:List In)(e:Ending)(w':World):Prop:=∃(tv:WV) (A2:jA) (n2 c2:Nat),e= .returned (.tuple #[.agg (mC tv),.slice A2 n2 c2])/\er tv=t/\qB kW w' (fun b=>w.heap.size<=b) tv/\Rs w C A2 n2 c2 rest/\eA w w'
def FV(w:World)(C:Nat)(ps:List PW)(rest:List In)(e:Ending)(w':World):Prop:=∃(A:jA) (n c:Nat) (ts:List WV) (A2:jA) (n2 c2:Nat),e= .returned (.tuple #[.slice A n c,.slice A2 n2 c2])/\oA ts=ps/\kW.Own w' w.heap.size (.slice A n c) ts/\(∀t∈ts,qB kW w' (fun b=>w.heap.size<=b/\(Value.slice A n c).ownBlock≠some b) t)/\Rs w C A2 n2 c2 rest/\eA w w'
def Stop(l:List In):Prop:=∀x,l.head? = some x->x.op=2
def uK(ps:List PW):Prop:=∀(rest:List In) (A:jA) (n c C:Nat) (w:World),(∀t∈ps,VB t)->Stop rest->Rs w C A n c (cB ps++rest)->C<=w.heap.size->fA 127 #[.slice A n c] w (FV w C ps rest)
theorem TI{w wr wf:World}{tv:WV}(z:WB wr w.heap.size EF)(new:qB kW wr (fun b=>w.heap.size<b) tv)(hb:eA w wr)(hs:gA (fun b=>b=w.heap.size) wr wf):qB kW wf (fun b=>w.heap.size<=b) tv/\eA w wf:=by
 refine⟨(new.but hs (fun b hb e=>by omega) (fun b a d e c=>?_)).mono fun b _ hb=>Nat.le_of_lt hb,FG hb hs⟩;subst e;exact RA c z nA rfl
structure eH(w wr:World)(g1 g2:Nat)(x:In)(tv:WV):Prop where
 z:WB wr w.heap.size EF
 l1:w.heap.size<g1
 l2:g1<g2
 x:XB wr g1 x
 t:WB wr g2 tv
 hb:eA w wr
section
variable{w wr w2:World}{x:In}{tag key txt:wA}{sa sk:Sv}{ats:List P3.At}{ks:List WV}{kind:Int}{g1 g2:Nat}
theorem eH.qC(h:eH w wr g1 g2 x (.mk kind tag key txt sa ats sk ks))(hb:eA wr w2):eH w w2 g1 g2 x (.mk kind tag key txt sa ats sk ks):=⟨h.z.below hb h.z.lt,h.l1,h.l2,h.x.below hb h.x.lt,h.t.below hb h.t.lt,h.hb.trans (hb.mono h.hb.size)⟩
theorem eH.GV(h:eH w wr g1 g2 x (.mk kind tag key txt sa ats sk ks))(sa':Sv)(ats':List P3.At):eH w (wr.setCell (dA g2 4) (.slice sa'.A sa'.n sa'.c)) g1 g2 x (.mk kind tag key txt sa' ats' sk ks):=by
 have:=h.l1;have:=h.l2;refine⟨(Below.heap_setCell _ _ _ _ (by simp only;omega)).trans h.z,h.l1,h.l2,(Below.heap_setCell _ _ _ _ (by simp only;omega)).trans h.x,heap_set h.t 4 _,?_⟩;exact h.hb.trans ((gA.setCell (S:=fun b=>b=g2) (p:=(dA g2 4)) (gA.refl _ wr) (fun _=>rfl) _).AB (fun i _ a=>by omega) h.hb.size)
theorem eH.Bt(h:eH w wr g1 g2 x (.mk kind tag key txt sa ats sk ks))(sk':Sv)(ks':List WV):eH w (wr.setCell (dA g2 5) (.slice sk'.A sk'.n sk'.c)) g1 g2 x (.mk kind tag key txt sa ats sk' ks'):=by
 have:=h.l1;have:=h.l2;refine⟨(Below.heap_setCell _ _ _ _ (by simp only;omega)).trans h.z,h.l1,h.l2,(Below.heap_setCell _ _ _ _ (by simp only;omega)).trans h.x,heap_set h.t 5 _,?_⟩;exact h.hb.trans ((gA.setCell (S:=fun b=>b=g2) (p:=(dA g2 5)) (gA.refl _ wr) (fun _=>rfl) _).AB (fun i _ a=>by omega) h.hb.size)
theorem UO(w:World)(g i:Nat)(u:Value):gA (fun b=>b=g) w (w.setCell (dA g i) u):=gA.setCell (S:=fun b=>b=g) (p:=(dA g i)) (gA.refl _ w) (fun _=>rfl) _
theorem eH.eD(h:eH w wr g1 g2 x (.mk kind tag key txt sa ats sk ks)):qD wr (fun b=>b=g2):=fun b a d e c=>by
 subst e;exact RA c h.t nA rfl
end
theorem dV{w wr:World}{g1 g2:Nat}{x:In}{tag key:wA}{sa sk:Sv}{ats:List P3.At}{ks:List WV}{D:Nat}(h:eH w wr g1 g2 x (.mk 1 tag key zB sa ats sk ks))(ha:nB wr sa ats)(own:kW.Own wr D (.slice sk.A sk.n sk.c) ks)(hD:w.heap.size<D)(hks:∀t∈ks,qB kW wr (fun b=>w.heap.size<b) t):
 qB kW wr (fun b=>w.heap.size<b) (.mk 1 tag key zB sa ats sk ks):=⟨ha,own.dE (Nat.zero_le _),fun b a=>by have:=(own.lt a).1;omega,hks⟩
theorem ue(tag key:wA)(ats:List P3.At)(kids:List PW)(rest:List In)(A:jA)(n c C:Nat)(w:World)(IH:uK kids)(hk:∀k∈kids,VB k)(h:Rs w C A n c (⟨1,tag,key⟩:: (ats.map dC++(cB kids++(⟨2,z0,z0⟩:: rest)))))(hC:C<=w.heap.size):
 fA 177 #[.slice A n c] w (tK w C (.mk 1 tag key z0 ats kids) rest):=by
 have HS:=Zh h;obtain⟨b,o,rfl,J,a4,a5,a6,hl,h0,f,g⟩:=h.cons;have a7:=Zh f;have S:=Zh g;have ab:=h.cap;have a8:=h.cm;have T:=Zh IH;have HK:=Zh hk;have CG:Hid (∀(i:World) (j:jA) (l m:Nat),eA w i->Rs w C j l m (ats.map dC++(cB kids++(⟨2,z0,z0⟩:: rest)))->fA 187 #[.slice j l m] i (EV i C ats (cB kids++(⟨2,z0,z0⟩:: rest)))):=Zh (fun i j l m hz hr=>
  lW ats _ j l m C i (oP hk (zG.cons rfl)) (hr.below hz hC) (Nat.le_trans hC hz.size))
 have CA:Hid (∀(i:World) (j:jA) (l m:Nat),eA w i->Rs i C j l m (cB kids++(⟨2,z0,z0⟩:: rest))->fA 127 #[.slice j l m] i (FV i C kids (⟨2,z0,z0⟩:: rest))):=Zh (fun i j l m hz hr=>
  T (⟨2,z0,z0⟩:: rest) j l m C i hk (fun x hx=>by injection hx with hx;rw[<-hx]) hr (Nat.le_trans hC hz.size))
 clear h f g IH hk;have K:b<w.heap.size:=Nat.lt_of_lt_of_le J hC;have i1:(1:Int)<=(n:Int):=cA;have i2:(n:Int)<=(c:Int):=cA;have ac:c<=9223372036854775807:=(by unfold maxLen at a8;omega);have L:¬c=1:=(by simp at hl;omega);have HR:=Zh (S L);have af:¬c-1=0:=cA;clear a7 S HS T HK hl;go_enter func177,ntmps177;go_upto_region 1 with fail;have U:Hid (WB (w.alloc (.cells #[aA 0,tA,tA,tA,vA,vA] 175)) w.heap.size EF):=Zh (WB.new w EF);have M:Hid (eA w (w.alloc (.cells #[aA 0,tA,tA,tA,vA,vA] 175))):=Zh (Zb _ _);generalize w.alloc (.cells #[aA 0,tA,tA,tA,vA,vA] 175)=q at U M|-;have g0:=(M.cell (p:=(dA b o)) K).trans a4;have g1:=(M.cell (p:=⟨b,o+1,none⟩) K).trans a5;have g2:=(M.cell (p:=⟨b,o+2,none⟩) K).trans a6;go_upto_region 2 with fail;have u:Hid (XB (q.alloc (.cells #[aA 1,bA tag,bA key] 110)) q.heap.size ⟨1,tag,key⟩):=Zh (XB.new q ⟨1,tag,key⟩);have b1:eA q (q.alloc (.cells #[aA 1,bA tag,bA key] 110)):=Zb _ _;generalize q.alloc (.cells #[aA 1,bA tag,bA key] 110)=y at u b1|-;have Z1:=Zh (U.below b1 U.lt);have B1:=Zh (M.trans (b1.mono M.size));have l1:w.heap.size<q.heap.size:=U.lt;generalize q.heap.size=k1 at u l1|-;clear b1 g0 g1 g2 U M;have x1:=u.c1;have x2:=u.c2;simp only at x1 x2;go_upto_region 3 with fail;have Q:Hid (eH w (y.alloc (.cells #[aA 1,bA tag,bA key,tA,vA,vA] 175)) k1 y.heap.size ⟨1,tag,key⟩ (.mk 1 tag key zB ⟨none,0,0⟩ [] ⟨none,0,0⟩ [])):=Zh (by
  have b2:eA y (y.alloc (.cells #[aA 1,bA tag,bA key,tA,vA,vA] 175)):=Zb _ _;exact⟨Z1.below b2 Z1.lt,l1,u.lt,u.below b2 u.lt,WB.new y (.mk 1 tag key zB ⟨none,0,0⟩ [] ⟨none,0,0⟩ []),B1.trans (b2.mono B1.size)⟩)
 generalize y.alloc (.cells #[aA 1,bA tag,bA key,tA,vA,vA] 175)=w2 at Q|-;generalize y.heap.size=r at Q|-;clear u Z1 B1 x1 x2;go_wp2_with fail;refine(CG w2 _ _ _ Q.hb HR).mono ?_;rintro e w3 ⟨z,B,D,A4,n4,c4,rfl,o3,r4,b3⟩;have V:=Zh (Q.qC b3);have R4:=Zh (r4.back Q.hb hC);obtain⟨sa,a9,W⟩:=nB.own o3;obtain⟨sA,sn,sc⟩:=sa;injection a9 with e1 e2 e3;subst e1;subst e2;subst e3;have s:=Zh (V.GV ⟨z,B,D⟩ ats);have N:=Zh (W.but (UO w3 r 4 (.slice z B D)) V.eD);have t4:=V.t.c4;have tf:=V.t.fr;simp only[WV.sa] at t4;clear o3 r4 b3 W Q CG HR;go_upto_region 4 with fail;generalize w3.setCell (dA r 4) (.slice z B D)=w4 at s N|-;clear t4 tf V;have x0:=s.x.c0;simp only at x0;go_wp2_with fail;refine(CA w4 _ _ _ s.hb (R4.below s.hb hC)).mono ?_;rintro e w5 ⟨E,F,G,ks,A6,n6,X,rfl,Y,H,I,r6,b5⟩;have R:=Zh (s.qC b5);have R6:=Zh (r6.back s.hb hC);have Z:=Zh (N.below b5);have a0:=Zh Y;have O:=Zh H;have a1:=Zh I;have lk:r<w4.heap.size:=s.t.lt;have lw:w.heap.size<w4.heap.size:=s.z.lt;have a:=Zh (R.Bt ⟨E,F,G⟩ ks);have N6:Hid (qB kW (w5.setCell (dA r 5) (.slice E F G)) (fun b=>w.heap.size<b) (.mk 1 tag key zB ⟨z,B,D⟩ ats ⟨E,F,G⟩ ks)):=Zh (dV a (Z.but (UO w5 r 5 _) R.eD) (O.sB (fun b J=>Below.heap_setCell _ _ _ _ (show b≠r by have:=(O.lt J).1;omega))) lw (fun t ht=>((a1 t ht).but (UO w5 r 5 _) (fun b J e=>by have:=J.1;omega) R.eD).mono (fun b _ J=>by have:=J.1;omega)));have t5:=R.t.c5;have tf:=R.t.fr;simp only[WV.sk] at t5;clear Y H I r6 b5 x0 s N CA R4;go_upto_region 6 with fail;generalize w5.setCell (dA r 5) (.slice E F G)=w6 at a N6|-;clear t5 tf R Z O a1;obtain⟨b6,o6,rfl,ag,_,_,_,ah,ai,f,g⟩:=R6.cons;have ad:=R6.cap;have a2:=R6.cm;have j1:(1:Int)<=(n6:Int):=cA;have j2:(n6:Int)<=(X:Int):=cA;have aa:X<=9223372036854775807:=(by unfold maxLen at a2;omega);have t0:=a.t.c0;have t1:=a.t.c1;have t2:=a.t.c2;have t3:=a.t.c3;have t4:=a.t.c4;have t5:=a.t.c5;have z0:=a.z.c0;have z1:=a.z.c1;have z2:=a.z.c2;have z3:=a.z.c3;have z4:=a.z.c4;have z5:=a.z.c5;simp only[WV.kind,WV.tag,WV.key,WV.txt,WV.sa,WV.sk,EF,zB] at t0 t1 t2 t3 t4 t5 z0 z1 z2 z3 z4 z5;have zf:=a.z.fr;have a3:w.heap.size<w6.heap.size:=a.z.lt;have aj:r≠w.heap.size:=(by have:=a.l1;have:=a.l2;omega);by_cases d:X=1
 ·have P:=Zh (f d);subst d;obtain rfl:n6=1:=cA
  clear f g;go_wp2_with fail;refine bodyPost_ret (v:=.tuple #[.agg #[aA 1,bA tag,bA key,tA,.slice z B D,.slice E F G],.slice (some (dA b6 o6)) (0) (0)]) (by simp[results,results177,go_sem,z0,z1,z2,z3,z4,z5,a3]) rfl ⟨.mk 1 tag key zB ⟨z,B,D⟩ ats ⟨E,F,G⟩ ks,_,_,_,rfl,by rw[er,a0.out];rfl,?_,P,?_⟩
  ·exact(TI a.z N6 a.hb (EA (EA (EA (EA (EA (EA (gA.refl _ _)))))))).1
  ·exact(TI a.z N6 a.hb (EA (EA (EA (EA (EA (EA (gA.refl _ _)))))))).2
 ·have P:=Zh (g d);have ae:¬X-1=0:=cA;clear f g;go_wp2_with fail;refine bodyPost_ret (v:=.tuple #[.agg #[aA 1,bA tag,bA key,tA,.slice z B D,.slice E F G],.slice (some ⟨b6,o6+3,none⟩) (n6-1) (X-1)]) (by simp[results,results177,go_sem,z0,z1,z2,z3,z4,z5,a3]) rfl ⟨.mk 1 tag key zB ⟨z,B,D⟩ ats ⟨E,F,G⟩ ks,_,_,_,rfl,by rw[er,a0.out];rfl,?_,P,?_⟩
  ·exact(TI a.z N6 a.hb (EA (EA (EA (EA (EA (EA (gA.refl _ _)))))))).1
  ·exact(TI a.z N6 a.hb (EA (EA (EA (EA (EA (EA (gA.refl _ _)))))))).2
theorem ve(tag key:wA)(ats:List P3.At)(rest:List In)(A:jA)(n c C:Nat)(w:World)(hT:zG rest)(h:Rs w C A n c (⟨3,tag,key⟩:: (ats.map dC++rest)))(hC:C<=w.heap.size):
 fA 177 #[.slice A n c] w (tK w C (.mk 1 tag key z0 ats []) rest):=by
 obtain⟨b,o,rfl,hb,N,O,P,hl,h0,Q,R⟩:=h.cons;have E:=Zh Q;have F:=Zh R;have a2:=h.cap;have a0:=h.cm;have CG:Hid (∀(S:World) (A':jA) (n' c':Nat),eA w S->Rs w C A' n' c' (ats.map dC++rest)->fA 187 #[.slice A' n' c'] S (EV S C ats rest)):=Zh (fun S A' n' c' hz hr=>
  lW ats _ A' n' c' C S hT (hr.below hz hC) (Nat.le_trans hC hz.size))
 clear h Q R hT hl;have k:b<w.heap.size:=Nat.lt_of_lt_of_le hb hC;have i1:(1:Int)<=(n:Int):=cA;have i2:(n:Int)<=(c:Int):=cA;have a3:c<=9223372036854775807:=(by unfold maxLen at a0;omega);by_cases i:c=1
 ·have T:=Zh (E i);subst i;obtain rfl:n=1:=cA
  clear E F;go_enter func177,ntmps177;go_upto_region 1 with fail;have s:Hid (WB (w.alloc (.cells #[aA 0,tA,tA,tA,vA,vA] 175)) w.heap.size EF):=Zh (WB.new w EF);have j:Hid (eA w (w.alloc (.cells #[aA 0,tA,tA,tA,vA,vA] 175))):=Zh (Zb _ _);generalize w.alloc (.cells #[aA 0,tA,tA,tA,vA,vA] 175)=d at s j|-;have g0:=(j.cell (p:=(dA b o)) k).trans N;have g1:=(j.cell (p:=⟨b,o+1,none⟩) k).trans O;have g2:=(j.cell (p:=⟨b,o+2,none⟩) k).trans P;go_upto_region 2 with fail;have f:Hid (XB (d.alloc (.cells #[aA 3,bA tag,bA key] 110)) d.heap.size ⟨3,tag,key⟩):=Zh (XB.new d ⟨3,tag,key⟩);have z:eA d (d.alloc (.cells #[aA 3,bA tag,bA key] 110)):=Zb _ _;generalize d.alloc (.cells #[aA 3,bA tag,bA key] 110)=g at f z|-;have G:=Zh (s.below z s.lt);have H:=Zh (j.trans (z.mono j.size));have U:w.heap.size<d.heap.size:=s.lt;generalize d.heap.size=k1 at f U|-;clear z g0 g1 g2 s j;have V:=f.c1;have W:=f.c2;simp only at V W;go_upto_region 3 with fail;have l:Hid (eH w (g.alloc (.cells #[aA 1,bA tag,bA key,tA,vA,vA] 175)) k1 g.heap.size ⟨3,tag,key⟩ (.mk 1 tag key zB ⟨none,0,0⟩ [] ⟨none,0,0⟩ [])):=Zh (by
   have I:eA g (g.alloc (.cells #[aA 1,bA tag,bA key,tA,vA,vA] 175)):=Zb _ _;exact⟨G.below I G.lt,U,f.lt,f.below I f.lt,WB.new g (.mk 1 tag key zB ⟨none,0,0⟩ [] ⟨none,0,0⟩ []),H.trans (I.mono H.size)⟩)
  generalize g.alloc (.cells #[aA 1,bA tag,bA key,tA,vA,vA] 175)=w2 at l|-;generalize g.heap.size=J at l|-;clear f G H V W;go_wp2_with fail;refine(CG w2 _ _ _ l.hb T).mono ?_;rintro e X ⟨m,q,r,A4,n4,c4,rfl,Y,Z,b3⟩;have u:=Zh (l.qC b3);have R4:=Zh (Z.back l.hb hC);obtain⟨sa,K,x⟩:=nB.own Y;obtain⟨sA,sn,sc⟩:=sa;injection K with e1 e2 e3;subst e1;subst e2;subst e3;have a:=Zh (u.GV ⟨m,q,r⟩ ats);have y:=Zh (x.but (UO X J 4 (.slice m q r)) u.eD);have B:=u.t.c4;have tf:=u.t.fr;simp only[WV.sa] at B;clear Y Z b3 x l CG T;go_upto_region 4 with fail;generalize X.setCell (dA J 4) (.slice m q r)=w4 at a y|-;clear B tf u;have x0:=a.x.c0;simp only at x0;have N4:Hid (qB kW w4 (fun b=>w.heap.size<b) (.mk 1 tag key zB ⟨m,q,r⟩ ats ⟨none,0,0⟩ [])):=Zh (dV (D:=w.heap.size+1) a y (Kind.Own.nil kW _ _) (Nat.lt_succ_self _) (fun t ht=>by cases ht));have L:=R4;have t0:=a.t.c0;have t1:=a.t.c1;have t2:=a.t.c2;have t3:=a.t.c3;have B:=a.t.c4;have t5:=a.t.c5;have z0:=a.z.c0;have z1:=a.z.c1;have z2:=a.z.c2;have z3:=a.z.c3;have z4:=a.z.c4;have z5:=a.z.c5;simp only[WV.kind,WV.tag,WV.key,WV.txt,WV.sa,WV.sk,EF,zB] at t0 t1 t2 t3 B t5 z0 z1 z2 z3 z4 z5;have zf:=a.z.fr;have M:w.heap.size<w4.heap.size:=a.z.lt;have a1:J≠w.heap.size:=(by have:=a.l1;have:=a.l2;omega);go_wp2_with fail;refine bodyPost_ret (v:=.tuple #[.agg #[aA 1,bA tag,bA key,tA,.slice m q r,vA],.slice A4 n4 c4]) (by simp[results,results177,go_sem,z0,z1,z2,z3,z4,z5,M]) rfl ⟨.mk 1 tag key zB ⟨m,q,r⟩ ats ⟨none,0,0⟩ [],_,_,_,rfl,by rw[er,oA];rfl,?_,L,?_⟩
  ·exact(TI a.z N4 a.hb (EA (EA (EA (EA (EA (EA (gA.refl _ _)))))))).1
  ·exact(TI a.z N4 a.hb (EA (EA (EA (EA (EA (EA (gA.refl _ _)))))))).2
 ·have T:=Zh (F i);have a4:¬c-1=0:=cA;clear E F;go_enter func177,ntmps177;go_upto_region 1 with fail;have s:Hid (WB (w.alloc (.cells #[aA 0,tA,tA,tA,vA,vA] 175)) w.heap.size EF):=Zh (WB.new w EF);have j:Hid (eA w (w.alloc (.cells #[aA 0,tA,tA,tA,vA,vA] 175))):=Zh (Zb _ _);generalize w.alloc (.cells #[aA 0,tA,tA,tA,vA,vA] 175)=d at s j|-;have g0:=(j.cell (p:=(dA b o)) k).trans N;have g1:=(j.cell (p:=⟨b,o+1,none⟩) k).trans O;have g2:=(j.cell (p:=⟨b,o+2,none⟩) k).trans P;go_upto_region 2 with fail;have f:Hid (XB (d.alloc (.cells #[aA 3,bA tag,bA key] 110)) d.heap.size ⟨3,tag,key⟩):=Zh (XB.new d ⟨3,tag,key⟩);have z:eA d (d.alloc (.cells #[aA 3,bA tag,bA key] 110)):=Zb _ _;generalize d.alloc (.cells #[aA 3,bA tag,bA key] 110)=g at f z|-;have G:=Zh (s.below z s.lt);have H:=Zh (j.trans (z.mono j.size));have U:w.heap.size<d.heap.size:=s.lt;generalize d.heap.size=k1 at f U|-;clear z g0 g1 g2 s j;have V:=f.c1;have W:=f.c2;simp only at V W;go_upto_region 3 with fail;have l:Hid (eH w (g.alloc (.cells #[aA 1,bA tag,bA key,tA,vA,vA] 175)) k1 g.heap.size ⟨3,tag,key⟩ (.mk 1 tag key zB ⟨none,0,0⟩ [] ⟨none,0,0⟩ [])):=Zh (by
   have I:eA g (g.alloc (.cells #[aA 1,bA tag,bA key,tA,vA,vA] 175)):=Zb _ _;exact⟨G.below I G.lt,U,f.lt,f.below I f.lt,WB.new g (.mk 1 tag key zB ⟨none,0,0⟩ [] ⟨none,0,0⟩ []),H.trans (I.mono H.size)⟩)
  generalize g.alloc (.cells #[aA 1,bA tag,bA key,tA,vA,vA] 175)=w2 at l|-;generalize g.heap.size=J at l|-;clear f G H V W;go_wp2_with fail;refine(CG w2 _ _ _ l.hb T).mono ?_;rintro e X ⟨m,q,r,A4,n4,c4,rfl,Y,Z,b3⟩;have u:=Zh (l.qC b3);have R4:=Zh (Z.back l.hb hC);obtain⟨sa,K,x⟩:=nB.own Y;obtain⟨sA,sn,sc⟩:=sa;injection K with e1 e2 e3;subst e1;subst e2;subst e3;have a:=Zh (u.GV ⟨m,q,r⟩ ats);have y:=Zh (x.but (UO X J 4 (.slice m q r)) u.eD);have B:=u.t.c4;have tf:=u.t.fr;simp only[WV.sa] at B;clear Y Z b3 x l CG T;go_upto_region 4 with fail;generalize X.setCell (dA J 4) (.slice m q r)=w4 at a y|-;clear B tf u;have x0:=a.x.c0;simp only at x0;have N4:Hid (qB kW w4 (fun b=>w.heap.size<b) (.mk 1 tag key zB ⟨m,q,r⟩ ats ⟨none,0,0⟩ [])):=Zh (dV (D:=w.heap.size+1) a y (Kind.Own.nil kW _ _) (Nat.lt_succ_self _) (fun t ht=>by cases ht));have L:=R4;have t0:=a.t.c0;have t1:=a.t.c1;have t2:=a.t.c2;have t3:=a.t.c3;have B:=a.t.c4;have t5:=a.t.c5;have z0:=a.z.c0;have z1:=a.z.c1;have z2:=a.z.c2;have z3:=a.z.c3;have z4:=a.z.c4;have z5:=a.z.c5;simp only[WV.kind,WV.tag,WV.key,WV.txt,WV.sa,WV.sk,EF,zB] at t0 t1 t2 t3 B t5 z0 z1 z2 z3 z4 z5;have zf:=a.z.fr;have M:w.heap.size<w4.heap.size:=a.z.lt;have a1:J≠w.heap.size:=(by have:=a.l1;have:=a.l2;omega);go_wp2_with fail;refine bodyPost_ret (v:=.tuple #[.agg #[aA 1,bA tag,bA key,tA,.slice m q r,vA],.slice A4 n4 c4]) (by simp[results,results177,go_sem,z0,z1,z2,z3,z4,z5,M]) rfl ⟨.mk 1 tag key zB ⟨m,q,r⟩ ats ⟨none,0,0⟩ [],_,_,_,rfl,by rw[er,oA];rfl,?_,L,?_⟩
  ·exact(TI a.z N4 a.hb (EA (EA (EA (EA (EA (EA (gA.refl _ _)))))))).1
  ·exact(TI a.z N4 a.hb (EA (EA (EA (EA (EA (EA (gA.refl _ _)))))))).2
end P14
namespace P20
open P5 P14 P16 P19
section
variable{s0:Sg}{par:Int}{ids T kept:List Int}{want:List PW}{pre post:List Int}{i:Nat}{p p':Sg×List Int}{done o2:List Int}
end
end P20

namespace P20
open P5 P11 P12 P13 P14 P16 P19
def PG(kids:List Int)(id:Int):Int:=(kids.drop (kids.idxOf id+1)).headD 0
def dD(s:Sg)(id:Int)(b:KA)(outer:Bool):Nat×Sg:=
 if(SA b).2≠0 then((SA b).2,s)
 else if bD (SA b).1≠0 then(bD (SA b).1,s)
 else match find s.1.l id with
 |none=>(2,s)
 |some nd=>
  if wB nd.tag=true then(3,s)
  else if outer=true/\(nd.par=0\/1<(QB (SA b).1).length) then(4,s)
  else if s.1.R<s.1.l.length+fB (QB (SA b).1) then(6,s)
  else if outer=false then(0,DB (dL (QB (SA b).1)+1) s id nd.kids 0 (QB (SA b).1))
  else(0,DB (dL (QB (SA b).1)+1) s nd.par [id] (PG (xA s.1.l nd.par) id) (QB (SA b).1))
theorem P0:∀(f:Nat) (b:KA) (acc:List In),(∀i∈acc,gB i=true)->∀i∈(xF f b acc).1,gB i=true
 |0,_,_,h=>h
 |f+1,b,acc,h=>by
  rw[xF];split
  ·exact h
  ·split
   ·intro i hi;cases hi
   ·rename_i i r e;split
    ·intro i hi;cases hi
    ·refine P0 f r _ (fun j hj=>?_);rcases List.mem_append.1 hj with hj|hj
     ·exact h j hj
     ·rw[List.mem_singleton] at hj;subst hj;unfold YF at e;split at e
      ·cases e
      ·split at e
       ·cases e
       ·split at e
        ·rename_i hm;injection e with e;injection e with e1 _;rw[<-e1];exact hm
        ·cases e
theorem Q0(b:KA):∀i∈(SA b).1,gB i=true:=P0 _ _ _ (fun i a=>by cases a)
theorem jX:∀(f:Nat) (b:KA) (acc:List In),acc.length<=120->(xF f b acc).1.length<=120
 |0,_,_,h=>h
 |f+1,b,acc,h=>by
  rw[xF];split
  ·exact h
  ·split
   ·simp
   ·split
    ·simp
    ·rename_i hne;exact jX f _ _ AA
theorem lX(b:KA):(SA b).1.length<=120:=jX _ _ _ DA
theorem RM{l:List In}(h:bD l=0):eB (QB l)<=120/\JC (QB l)<=120:=by
 obtain⟨a,b⟩:=EN h;have c:=Q8 b;rw[a] at c;have d:=(lS h).1;have e:=XU (QB l);omega
theorem mX{d:D}(hw:WF d){id:Int}{nd:Nd}(hf:find d.l id=some nd)(h0:nd.par≠0):∃pre post,xA d.l nd.par=pre++([id]++post)/\PG (xA d.l nd.par) id=post.headD 0:=by
 have b:yA d.l id=nd.par:=NQ hf;have f:id∈xA d.l nd.par:=(by have:=hw.tr.par id (by rw[b];exact h0);rw[b] at this;exact this);have a:=List.idxOf_lt_length_of_mem f;refine⟨(xA d.l nd.par).take ((xA d.l nd.par).idxOf id),(xA d.l nd.par).drop ((xA d.l nd.par).idxOf id+1),?_,rfl⟩;have c:=List.take_append_drop ((xA d.l nd.par).idxOf id) (xA d.l nd.par);have e:=List.drop_eq_getElem_cons a;rw[List.getElem_idxOf a] at e;rw[e] at c;exact c.symm
theorem YU{s:Sg}(hw:WF s.1)(id:Int)(b:KA)(outer:Bool):WF (dD s id b outer).2.1/\(dD s id b outer).2.1.n<=s.1.n+120/\(dD s id b outer).2.2.length<=s.2.length+250000:=by
 unfold dD;split
 ·exact⟨hw,by show s.1.n<=_;omega,by show s.2.length<=_;omega⟩
 split
 ·exact⟨hw,by show s.1.n<=_;omega,by show s.2.length<=_;omega⟩
 rename_i hc;have r:=(RM (l:=(SA b).1) cA).1;cases hf:find s.1.l id with
 |none=>exact⟨hw,by show s.1.n<=_;omega,by show s.2.length<=_;omega⟩
 |some nd=>
  simp only;have c:id≠0:=hw.tr.SF (LH hf);split
  ·exact⟨hw,by show s.1.n<=_;omega,by show s.2.length<=_;omega⟩
  split
  ·exact⟨hw,by show s.1.n<=_;omega,by show s.2.length<=_;omega⟩
  split
  ·exact⟨hw,by show s.1.n<=_;omega,by show s.2.length<=_;omega⟩
  split
  ·obtain⟨g,j⟩:=NI hw id;have d:xA s.1.l id=nd.kids:=yJ hf;rw[d] at g j;have k:=VZ (dL (QB (SA b).1)+1) 0 (QB (SA b).1) hw c g j;have f:=qY (dL (QB (SA b).1)) 0 (QB (SA b).1) hw c g j (by rw[<-d];exact VJ hw id);refine⟨k.1,?_,?_⟩
   ·show(DB _ s id nd.kids 0 _).1.n<=_;have:=f.1;omega
   ·show(DB _ s id nd.kids 0 _).2.length<=_;have:=f.2;omega
  ·rename_i h3 h4 h5 h6;have m:outer=true:=(by simpa using h6);have a:nd.par≠0:=fun e=>h4 ⟨m,.inl e⟩
   obtain⟨q,o,t,u⟩:=mX hw hf a;have d:P19.Kids s nd.par [id]:=fun i p=>by
    rw[List.mem_singleton] at p;subst p;exact⟨LH hf,NQ hf⟩
   have k:=VZ (dL (QB (SA b).1)+1) (PG (xA s.1.l nd.par) id) (QB (SA b).1) hw a d DA;have f:=qY (dL (QB (SA b).1)) (PG (xA s.1.l nd.par) id) (QB (SA b).1) hw a d DA DA;refine⟨k.1,?_,?_⟩
   ·show(DB _ s nd.par [id] _ _).1.n<=_;have:=f.1;omega
   ·show(DB _ s nd.par [id] _ _).2.length<=_;have:=f.2;omega
end P20
namespace P14
open Go.RowKit Kd P4 P5 P11 P12 P13
attribute [local go_sem ↓] Go.wp_at_zero Go.wp_at_succ
def QJ(kind:Int)(txt:wA):WV:=.mk kind ⟨#[]⟩ ⟨#[]⟩ txt ⟨none,0,0⟩ [] ⟨none,0,0⟩ []
theorem FM(w:World)(k:Int)(t:wA)(Q:Nat->Prop):qB kW w Q (QJ k t):=qB.mk (sk:=⟨none,0,0⟩) (nB.yI w) (Kind.Own.nil kW w 0) (fun b a=>by cases a) (fun k c=>by cases c)
theorem UM(k:Int)(t:wA):er (QJ k t)= .mk k z0 z0 t [] []:=by rw[QJ,er,oA];rfl
theorem ss{w:World}{g b o:Nat}{u u0 u1 u2 u3 u4 u5:Value}(h:b≠g)(hc:w.cell? (dA b o)=some u):((((((w.setCell (dA g 0) u0).setCell (dA g 1) u1).setCell (dA g 2) u2).setCell (dA g 3) u3).setCell (dA g 4) u4).setCell (dA g 5) u5).cell? (dA b o)=some u:=by
 refine(World.cell?_of_block ?_).trans hc;have k:∀(w:World) (i:Nat) (u:Value),(w.setCell (dA g i) u).heap[b]? = w.heap[b]?:=fun w i u=>Below.heap_setCell w _ u b h
 rw[k,k,k,k,k,k]
theorem yi(w:World)(a:Addr):w.drew.cell? a=w.cell? a:=rfl
theorem zb{w:World}{g b o:Nat}{u u0 u1 u2 u3 u4 u5:Value}(h:b≠g)(hc:w.cell? (dA b o)=some u):((((((w.setCell (dA g 0) u0).setCell (dA g 1) u1).setCell (dA g 2) u2).setCell (dA g 3) u3).setCell (dA g 4) u4).setCell (dA g 5) u5).drew.cell? (dA b o)=some u:=(yi _ _).trans (ss h hc)
theorem WR(op kind:Int)(a b2 txt:wA)(rest:List In)(A:jA)(n c C:Nat)(w:World)(hk:(op=4/\kind=2/\txt=a)\/(op=8/\kind=3/\txt=⟨#[]⟩)\/(op=7/\kind=4/\txt=⟨#[]⟩))(h:Rs w C A n c (⟨op,a,b2⟩:: rest))(hC:C<=w.heap.size):
 fA 149 #[.slice A n c] w (tK w C (.mk kind z0 z0 txt [] []) rest):=by
 obtain⟨b,o,rfl,M,g,i,I,N,P,B,D⟩:=h.cons;have l:=Zh B;have m:=Zh D;have K:=h.cap;have J:=h.cm;have j:b<w.heap.size:=Nat.lt_of_lt_of_le M hC;have E:b≠w.heap.size:=cA;have Q:(1:Int)<=(n:Int):=cA;have R:(n:Int)<=(c:Int):=cA;have L:c<=9223372036854775807:=(by unfold maxLen at J;omega);clear h B D N I;simp only at g i;rcases hk with⟨rfl,rfl,rfl⟩|⟨rfl,rfl,rfl⟩|⟨rfl,rfl,rfl⟩
 ·by_cases e:c=1
  ·have y:=Zh (l e);subst e;obtain rfl:n=1:=cA
   clear l m;go_enter func149,ntmps149;go_upto_region 1 with fail;have d:Hid (WB (w.alloc (.cells #[aA 0,tA,tA,tA,vA,vA] 175)) w.heap.size EF):=Zh (WB.new w EF);have f:Hid (eA w (w.alloc (.cells #[aA 0,tA,tA,tA,vA,vA] 175))):=Zh (Zb _ _);generalize w.alloc (.cells #[aA 0,tA,tA,tA,vA,vA] 175)=x at d f|-;have F:=(f.cell (p:=(dA b o)) j).trans g;have z:=(f.cell (p:=⟨b,o+1,none⟩) j).trans i;have z0:=d.c0;have q:=d.c1;have r:=d.c2;have s:=d.c3;have t:=d.c4;have u:=d.c5;simp only[WV.kind,WV.tag,WV.key,WV.txt,WV.sa,WV.sk,EF] at z0 q r s t u;have G:=d.fr;have k:w.heap.size<x.heap.size:=d.lt;clear g i;go_upto_region 3 with fail;have O:((((((x.setCell ⟨w.heap.size,0,none⟩ (aA 2)).setCell ⟨w.heap.size,1,none⟩ (tA)).setCell ⟨w.heap.size,2,none⟩ (tA)).setCell ⟨w.heap.size,3,none⟩ (bA txt)).setCell ⟨w.heap.size,4,none⟩ (vA)).setCell ⟨w.heap.size,5,none⟩ (vA)).drew.cell? ⟨b,o+1,none⟩=some (bA txt):=zb E z;go_region_held3 (fun w'=>w'.cell? ⟨b,o+1,none⟩=some (bA txt)) (go_keep) (fail)
   all_goals (go_wp2_with fail)
   all_goals (refine bodyPost_ret (v:=.tuple #[.agg #[aA 2,tA,tA,bA txt,vA,vA],.slice (some (dA b o)) (0) (0)]) (by simp[results,results149,go_sem,z0,q,r,s,t,u,k]) rfl ⟨QJ 2 txt,_,_,_,rfl,UM _ _,FM _ _ _ _,y,?_⟩)
   all_goals exact FG f (gA.drew (EA (EA (EA (EA (EA (EA (gA.refl _ _))))))))
  ·have y:=Zh (m e);have H:¬c-1=0:=cA;clear l m;go_enter func149,ntmps149;go_upto_region 1 with fail;have d:Hid (WB (w.alloc (.cells #[aA 0,tA,tA,tA,vA,vA] 175)) w.heap.size EF):=Zh (WB.new w EF);have f:Hid (eA w (w.alloc (.cells #[aA 0,tA,tA,tA,vA,vA] 175))):=Zh (Zb _ _);generalize w.alloc (.cells #[aA 0,tA,tA,tA,vA,vA] 175)=x at d f|-;have F:=(f.cell (p:=(dA b o)) j).trans g;have z:=(f.cell (p:=⟨b,o+1,none⟩) j).trans i;have z0:=d.c0;have q:=d.c1;have r:=d.c2;have s:=d.c3;have t:=d.c4;have u:=d.c5;simp only[WV.kind,WV.tag,WV.key,WV.txt,WV.sa,WV.sk,EF] at z0 q r s t u;have G:=d.fr;have k:w.heap.size<x.heap.size:=d.lt;clear g i;go_upto_region 3 with fail;have O:((((((x.setCell ⟨w.heap.size,0,none⟩ (aA 2)).setCell ⟨w.heap.size,1,none⟩ (tA)).setCell ⟨w.heap.size,2,none⟩ (tA)).setCell ⟨w.heap.size,3,none⟩ (bA txt)).setCell ⟨w.heap.size,4,none⟩ (vA)).setCell ⟨w.heap.size,5,none⟩ (vA)).drew.cell? ⟨b,o+1,none⟩=some (bA txt):=zb E z;go_region_held3 (fun w'=>w'.cell? ⟨b,o+1,none⟩=some (bA txt)) (go_keep) (fail)
   all_goals (go_wp2_with fail)
   all_goals (refine bodyPost_ret (v:=.tuple #[.agg #[aA 2,tA,tA,bA txt,vA,vA],.slice (some ⟨b,o+3,none⟩) (n-1) (c-1)]) (by simp[results,results149,go_sem,z0,q,r,s,t,u,k]) rfl ⟨QJ 2 txt,_,_,_,rfl,UM _ _,FM _ _ _ _,y,?_⟩)
   all_goals exact FG f (gA.drew (EA (EA (EA (EA (EA (EA (gA.refl _ _))))))))
 ·by_cases e:c=1
  ·have y:=Zh (l e);subst e;obtain rfl:n=1:=cA
   clear l m;go_enter func149,ntmps149;go_upto_region 1 with fail;have d:Hid (WB (w.alloc (.cells #[aA 0,tA,tA,tA,vA,vA] 175)) w.heap.size EF):=Zh (WB.new w EF);have f:Hid (eA w (w.alloc (.cells #[aA 0,tA,tA,tA,vA,vA] 175))):=Zh (Zb _ _);generalize w.alloc (.cells #[aA 0,tA,tA,tA,vA,vA] 175)=x at d f|-;have F:=(f.cell (p:=(dA b o)) j).trans g;have z:=(f.cell (p:=⟨b,o+1,none⟩) j).trans i;have z0:=d.c0;have q:=d.c1;have r:=d.c2;have s:=d.c3;have t:=d.c4;have u:=d.c5;simp only[WV.kind,WV.tag,WV.key,WV.txt,WV.sa,WV.sk,EF] at z0 q r s t u;have G:=d.fr;have k:w.heap.size<x.heap.size:=d.lt;clear g i;go_upto_region 5 with fail;go_region_held3 (fun _=>True) (trivial) (fail)
   all_goals (go_wp2_with fail)
   all_goals (refine bodyPost_ret (v:=.tuple #[.agg #[aA 3,tA,tA,tA,vA,vA],.slice (some (dA b o)) (0) (0)]) (by simp[results,results149,go_sem,z0,q,r,s,t,u,k]) rfl ⟨QJ 3 ⟨#[]⟩,_,_,_,rfl,UM _ _,FM _ _ _ _,y,?_⟩)
   all_goals exact FG f (gA.drew (EA (EA (EA (EA (EA (EA (gA.refl _ _))))))))
  ·have y:=Zh (m e);have H:¬c-1=0:=cA;clear l m;go_enter func149,ntmps149;go_upto_region 1 with fail;have d:Hid (WB (w.alloc (.cells #[aA 0,tA,tA,tA,vA,vA] 175)) w.heap.size EF):=Zh (WB.new w EF);have f:Hid (eA w (w.alloc (.cells #[aA 0,tA,tA,tA,vA,vA] 175))):=Zh (Zb _ _);generalize w.alloc (.cells #[aA 0,tA,tA,tA,vA,vA] 175)=x at d f|-;have F:=(f.cell (p:=(dA b o)) j).trans g;have z:=(f.cell (p:=⟨b,o+1,none⟩) j).trans i;have z0:=d.c0;have q:=d.c1;have r:=d.c2;have s:=d.c3;have t:=d.c4;have u:=d.c5;simp only[WV.kind,WV.tag,WV.key,WV.txt,WV.sa,WV.sk,EF] at z0 q r s t u;have G:=d.fr;have k:w.heap.size<x.heap.size:=d.lt;clear g i;go_upto_region 5 with fail;go_region_held3 (fun _=>True) (trivial) (fail)
   all_goals (go_wp2_with fail)
   all_goals (refine bodyPost_ret (v:=.tuple #[.agg #[aA 3,tA,tA,tA,vA,vA],.slice (some ⟨b,o+3,none⟩) (n-1) (c-1)]) (by simp[results,results149,go_sem,z0,q,r,s,t,u,k]) rfl ⟨QJ 3 ⟨#[]⟩,_,_,_,rfl,UM _ _,FM _ _ _ _,y,?_⟩)
   all_goals exact FG f (gA.drew (EA (EA (EA (EA (EA (EA (gA.refl _ _))))))))
 ·by_cases e:c=1
  ·have y:=Zh (l e);subst e;obtain rfl:n=1:=cA
   clear l m;go_enter func149,ntmps149;go_upto_region 1 with fail;have d:Hid (WB (w.alloc (.cells #[aA 0,tA,tA,tA,vA,vA] 175)) w.heap.size EF):=Zh (WB.new w EF);have f:Hid (eA w (w.alloc (.cells #[aA 0,tA,tA,tA,vA,vA] 175))):=Zh (Zb _ _);generalize w.alloc (.cells #[aA 0,tA,tA,tA,vA,vA] 175)=x at d f|-;have F:=(f.cell (p:=(dA b o)) j).trans g;have z:=(f.cell (p:=⟨b,o+1,none⟩) j).trans i;have z0:=d.c0;have q:=d.c1;have r:=d.c2;have s:=d.c3;have t:=d.c4;have u:=d.c5;simp only[WV.kind,WV.tag,WV.key,WV.txt,WV.sa,WV.sk,EF] at z0 q r s t u;have G:=d.fr;have k:w.heap.size<x.heap.size:=d.lt;clear g i;go_upto_region 7 with fail;go_region_held3 (fun _=>True) (trivial) (fail)
   all_goals (go_wp2_with fail)
   all_goals (refine bodyPost_ret (v:=.tuple #[.agg #[aA 4,tA,tA,tA,vA,vA],.slice (some (dA b o)) (0) (0)]) (by simp[results,results149,go_sem,z0,q,r,s,t,u,k]) rfl ⟨QJ 4 ⟨#[]⟩,_,_,_,rfl,UM _ _,FM _ _ _ _,y,?_⟩)
   all_goals exact FG f (gA.drew (EA (EA (EA (EA (EA (EA (gA.refl _ _))))))))
  ·have y:=Zh (m e);have H:¬c-1=0:=cA;clear l m;go_enter func149,ntmps149;go_upto_region 1 with fail;have d:Hid (WB (w.alloc (.cells #[aA 0,tA,tA,tA,vA,vA] 175)) w.heap.size EF):=Zh (WB.new w EF);have f:Hid (eA w (w.alloc (.cells #[aA 0,tA,tA,tA,vA,vA] 175))):=Zh (Zb _ _);generalize w.alloc (.cells #[aA 0,tA,tA,tA,vA,vA] 175)=x at d f|-;have F:=(f.cell (p:=(dA b o)) j).trans g;have z:=(f.cell (p:=⟨b,o+1,none⟩) j).trans i;have z0:=d.c0;have q:=d.c1;have r:=d.c2;have s:=d.c3;have t:=d.c4;have u:=d.c5;simp only[WV.kind,WV.tag,WV.key,WV.txt,WV.sa,WV.sk,EF] at z0 q r s t u;have G:=d.fr;have k:w.heap.size<x.heap.size:=d.lt;clear g i;go_upto_region 7 with fail;go_region_held3 (fun _=>True) (trivial) (fail)
   all_goals (go_wp2_with fail)
   all_goals (refine bodyPost_ret (v:=.tuple #[.agg #[aA 4,tA,tA,tA,vA,vA],.slice (some ⟨b,o+3,none⟩) (n-1) (c-1)]) (by simp[results,results149,go_sem,z0,q,r,s,t,u,k]) rfl ⟨QJ 4 ⟨#[]⟩,_,_,_,rfl,UM _ _,FM _ _ _ _,y,?_⟩)
   all_goals exact FG f (gA.drew (EA (EA (EA (EA (EA (EA (gA.refl _ _))))))))
end P14
namespace P8
open Go.RowKit Kd P4 P5
def Us:Prop:=∀(t:TV) (w:World),vC w w.heap.size t->qF (er t)=true->countP (er t)<=1000->fA 51 #[.agg #[bA t.tag,bA t.txt,bA t.key,.slice t.sa.A t.sa.n t.sa.c,.slice t.sk.A t.sk.n t.sk.c]] w fun e w'=>e= .returned (.bool (rE (er t)))/\eA w w'
section
variable{w:World}{s:Nat}
end
theorem mayText_any(t:TV)(w:World)(ht:t.tag.toList.isEmpty=true)(h:vC w w.heap.size t)(m2:t.txt.size<=maxLen):fA 84 #[.agg #[bA t.tag,bA t.txt,bA t.key,.slice t.sa.A t.sa.n t.sa.c,.slice t.sk.A t.sk.n t.sk.c]] w fun e w'=>e= .returned (.bool (rE (er t)))/\eA w w':=by
 obtain⟨tag,txt,key,⟨A,n,c⟩,attrs,⟨a,n2,d⟩,kids⟩:=t;have m:attrs.length=n:=h.al;have o:kids.length=n2:=h.kl;have m2:txt.size<=maxLen:=m2;have r:tag.toList.isEmpty=true:=ht;have i:Hid (eA w (w.alloc (.cells #[bA tag,bA txt,bA key,.slice A n c,.slice a n2 d] 59))):=Zh (Zb _ _);have g:Hid (TB (w.alloc (.cells #[bA tag,bA txt,bA key,.slice A n c,.slice a n2 d] 59)) w.heap.size (.mk tag txt key ⟨A,n,c⟩ attrs ⟨a,n2,d⟩ kids)):=Zh (TB.new w (.mk tag txt key ⟨A,n,c⟩ attrs ⟨a,n2,d⟩ kids));have p:attrs.isEmpty=decide (n=0):=(by rw[<-m];cases attrs<;>simp);have q:(oA kids).isEmpty=decide (n2=0):=(by rw[<-o,IB];cases kids<;>simp);obtain⟨s,f⟩:=qA (P1.YB txt.data.toList);have u:=Zh f;have l:Hid (rE (er (.mk tag txt key ⟨A,n,c⟩ attrs ⟨a,n2,d⟩ kids))=(s&&key.toList.isEmpty&&decide (n=0)&&decide (n2=0))):=Zh (by rw[er,rE,r,if_pos rfl,p,q,f]);clear h ht m o f p q;show fA 84 #[.agg #[bA tag,bA txt,bA key,.slice A n c,.slice a n2 d]] w _;go_enter func84,ntmps84;go_upto_region 1 with fail;generalize w.alloc (.cells #[bA tag,bA txt,bA key,.slice A n c,.slice a n2 d] 59)=W at i g|-;have x:W.cell? ⟨w.heap.size,0,none⟩=some (bA tag):=g.c0;have y:W.cell? ⟨w.heap.size,1,none⟩=some (bA txt):=g.c1;have z:W.cell? ⟨w.heap.size,2,none⟩=some (bA key):=g.c2;have B:W.cell? ⟨w.heap.size,3,none⟩=some (.slice A n c):=g.c3;have C:W.cell? ⟨w.heap.size,4,none⟩=some (.slice a n2 d):=g.c4;cases kE:key.toList.isEmpty with
 |false=>
  go_wp2_with fail;go_ret;exact⟨by rw[l.out,kE];simp,i⟩
 |true=>
  by_cases j:n=0
  ·subst j;by_cases k:n2=0
   ·subst k;go_wp2_with fail;refine zA (P3.rH txt _ u m2) ?_;go_wp2_with fail;go_ret;exact⟨by rw[l.out,kE];simp,i⟩
   ·have v:((n2:Int)==0)=false:=AA;go_wp2_with fail;go_ret;exact⟨by rw[l.out,kE];simp[k],i⟩
  ·have D:((n:Int)==0)=false:=AA;go_wp2_with fail;go_ret;exact⟨by rw[l.out,kE];simp[j],i⟩
theorem may_c:Us:=by
 intro t
 induction t using TV.ind with
 |h tag txt key sa attrs sk kids ih=>
  obtain⟨A,n,c⟩:=sa;obtain⟨f,n2,g⟩:=sk;intro w h p r;have al:attrs.length=n:=h.al;have AH:Hid (kA.pA w w.heap.size A attrs):=Zh h.ah;have J:Hid (kids.length=n2):=Zh h.kl;have KH:Hid (kT.pA w w.heap.size f kids):=Zh h.kh;have KS:Hid (∀k∈kids,vC w w.heap.size k):=Zh h.ks;have i:Hid (eA w (w.alloc (.cells #[bA tag,bA txt,bA key,.slice A n c,.slice f n2 g] 59))):=Zh (Zb _ _);have j:Hid (TB (w.alloc (.cells #[bA tag,bA txt,bA key,.slice A n c,.slice f n2 g] 59)) w.heap.size (.mk tag txt key ⟨A,n,c⟩ attrs ⟨f,n2,g⟩ kids)):=Zh (TB.new w (.mk tag txt key ⟨A,n,c⟩ attrs ⟨f,n2,g⟩ kids));rw[er,qF] at p;simp only[Bool.and_eq_true,decide_eq_true_eq] at p;obtain⟨⟨⟨⟨f1,f2⟩,f3⟩,f4⟩,f5⟩:=p;obtain⟨K,aa⟩:=PQ f4;have a9:n<=20:=cA;have m1:tag.size<=maxLen:=wD;have m2:txt.size<=maxLen:=wD;have m3:key.size<=maxLen:=wD;have F5:Hid (∀k (u:k<kids.length),qF (er kids[k])=true):=Zh (fun k u=>by
   have x:k<(oA kids).length:=(by rw[IB];simpa using u);have:=jO x f5;simpa[IB] using this)
  have AL:=Zh al;have HW:=Zh K;clear al K f4 f5;have CL:Hid (xB (oA kids)<=1000):=Zh (by rw[er,countP] at r;omega);have ab:n2<=1000:=(by have E:=aM (oA kids);rw[IB,List.length_map] at E;have h2:=J.out;have h3:=CL.out;rw[IB] at h3;omega);have C5:Hid (∀k (u:k<kids.length),countP (er kids[k])<=1000):=Zh (fun k u=>by
   have x:k<(oA kids).length:=(by rw[IB];simpa using u);have E:=WX x;have h2:=CL.out;have e:(oA kids)[k]=er kids[k]:=(by simp[IB]);rw[e] at E;omega)
  clear r;have IH:=Zh ih;have L:Hid (∀a,eA w a->tag.toList.isEmpty=true->fA 84 #[.agg #[bA tag,bA txt,bA key,.slice A n c,.slice f n2 g]] a fun e w'=>e= .returned (.bool (rE (er (.mk tag txt key ⟨A,n,c⟩ attrs ⟨f,n2,g⟩ kids))))/\eA a w'):=Zh (fun a F hE=>mayText_any (.mk tag txt key ⟨A,n,c⟩ attrs ⟨f,n2,g⟩ kids) a hE (h.on F) m2);have M:n<=c:=h.ac;have Z:Hid (∀a,eA w a->tag.toList.isEmpty=false->fA 85 #[.agg #[bA tag,bA txt,bA key,.slice A n c,.slice f n2 g]] a fun e w'=>e= .returned (.bool (rE (er (.mk tag txt key ⟨A,n,c⟩ attrs ⟨f,n2,g⟩ kids))))/\eA a w'):=Zh (by
   intro a F S;have a5:Hid (kA.pA a a.heap.size A attrs):=Zh (AH.on F);have a6:Hid (kT.pA a a.heap.size f kids):=Zh (KH.on F);have a7:Hid (∀k∈kids,vC a a.heap.size k):=Zh (fun k u=>(KS k u).on F);clear h F i j AH KH KS L;have i:Hid (eA a (a.alloc (.cells #[bA tag,bA txt,bA key,.slice A n c,.slice f n2 g] 59))):=Zh (Zb _ _);have j:Hid (TB (a.alloc (.cells #[bA tag,bA txt,bA key,.slice A n c,.slice f n2 g] 59)) a.heap.size (.mk tag txt key ⟨A,n,c⟩ attrs ⟨f,n2,g⟩ kids)):=Zh (TB.new a (.mk tag txt key ⟨A,n,c⟩ attrs ⟨f,n2,g⟩ kids));obtain⟨bn,y⟩:=qA (P1.NC tag.data.toList);obtain⟨bk,z⟩:=qA (P1.YB key.data.toList);obtain⟨ba,B⟩:=qA (P3.bC attrs);obtain⟨bv,C⟩:=qA (P1.fC tag.data.toList);have HN:=Zh y;have HK:=Zh z;have HA:=Zh B;have HV:=Zh C;have E2:(oA kids).isEmpty=decide (n2=0):=(by rw[<-J.out,IB];cases kids<;>simp);have T:Hid (rE (er (.mk tag txt key ⟨A,n,c⟩ attrs ⟨f,n2,g⟩ kids))=(bn&&bk&&ba&&txt.toList.isEmpty && !(bv && !decide (n2=0))&&iG (oA kids))):=Zh (by rw[er,rE,S,if_neg DA,y,z,B,C,E2]);clear ih y z B C E2;go_enter func85,ntmps85;go_upto_region 1 with fail;generalize a.alloc (.cells #[bA tag,bA txt,bA key,.slice A n c,.slice f n2 g] 59)=W at i j|-;have U:W.cell? ⟨a.heap.size,0,none⟩=some (bA tag):=j.c0;have a1:W.cell? ⟨a.heap.size,1,none⟩=some (bA txt):=j.c1;have a2:W.cell? ⟨a.heap.size,2,none⟩=some (bA key):=j.c2;have a3:W.cell? ⟨a.heap.size,3,none⟩=some (.slice A n c):=j.c3;have V:W.cell? ⟨a.heap.size,4,none⟩=some (.slice f n2 g):=j.c4;have l:Hid ((bn&&bk&&ba&&txt.toList.isEmpty && !(bv && !decide (n2=0)))=false->Ending.returned (.bool false)=Ending.returned (.bool (rE (er (.mk tag txt key ⟨A,n,c⟩ attrs ⟨f,n2,g⟩ kids))))):=Zh (fun e=>by rw[T.out,e,Bool.false_and]);go_wp2_with fail;refine zA (P3.vJ tag _ HN m1) ?_;cases bn with
   |false=>
    go_wp2_with fail;go_ret;exact⟨l rfl,i⟩
   |true=>
   go_wp2_with fail;refine zA (P3.rH key _ HK m3) ?_;cases bk with
   |false=>
    go_wp2_with fail;go_ret;exact⟨l rfl,i⟩
   |true=>
   cases xE:txt.toList.isEmpty with
   |false=>
    go_wp2_with fail;go_ret;exact⟨l (by rw[xE];simp),i⟩
   |true=>
   go_wp2_with fail;refine(P3.ZN attrs A n c W AL cA M HW (UE (a5.on i))).mono ?_;rintro e X ⟨rfl,q⟩;rw[HA.out];have v:=Zh (i.trans (q.mono i.size));have N2:=Zh (j.below q j.lt);clear q U a1 a2 a3 V;cases ba with
   |false=>
    go_wp2_with fail;go_ret;exact⟨l rfl,v⟩
   |true=>
   have U:X.cell? ⟨a.heap.size,0,none⟩=some (bA tag):=N2.c0;have V:X.cell? ⟨a.heap.size,4,none⟩=some (.slice f n2 g):=N2.c4;go_wp2_with fail;refine zA (P1.SP tag _) ?_;rw[HV.out];cases bv with
   |true=>
    by_cases N:n2=0
    ·subst N;go_wp2_with fail;go_ret;have e0:oA kids=[]:=(by rw[IB];have:=J.out;simpa using this);exact⟨by rw[T.out,xE,e0];rfl,v⟩
    ·have qn:((n2:Int)==0)=false:=AA;go_wp2_with fail;go_ret;exact⟨l (by rw[xE];simp[N]),v⟩
   |false=>
    have O:Hid (rE (er (.mk tag txt key ⟨A,n,c⟩ attrs ⟨f,n2,g⟩ kids))=iG (oA kids)):=Zh (by rw[T.out,xE];simp);clear l T;go_wp2_with fail;go_loopw [36] (fun s wr=>∃(k:Nat),k<=n2/\s = aA k/\Hid (iG ((oA kids).take k)=true)/\Hid (eA a wr)) (fun s _=>n2-(intOf s).toNat)
    case atStart=>exact⟨0,by omega,rfl,Zh (by simp[iG]),v⟩
    case round=>
     obtain⟨k,u,rfl,HM,G⟩:=hrel;by_cases ac:k<n2
     ·have m:k<kids.length:=(uA J.out);have a8:k<(oA kids).length:=(by rw[IB];simpa using m);have P:(oA kids)[k]=er kids[k]:=(by simp[IB]);obtain⟨b,o,rfl,hb,g0,g1,g2,g3,g4⟩:=TJ (a6.on G) m;have CK:Hid (∀H,eA wr H->fA 51 #[.agg #[bA kids[k].tag,bA kids[k].txt,bA kids[k].key,.slice kids[k].sa.A kids[k].sa.n kids[k].sa.c,.slice kids[k].sk.A kids[k].sk.n kids[k].sk.c]] H fun e w'=>e= .returned (.bool (rE (er kids[k])))/\eA H w'):=Zh (fun H hz=>IH kids[k] (List.getElem_mem m) H ((a7 _ (List.getElem_mem m)).on (G.trans (hz.mono G.size))) (F5 k m) (C5 k m));obtain⟨mk,D⟩:=qA (rE (er kids[k]));rw[D] at CK;have Q:Hid (rE (oA kids)[k]=mk):=Zh (by rw[P];exact D);have R:=Zh a8;clear D P;generalize kids[k]=d at g0 g1 g2 g3 g4 CK;go_upto_region 8 with fail;have I:Hid (TB (wr.alloc (.cells #[bA d.tag,bA d.txt,bA d.key,.slice d.sa.A d.sa.n d.sa.c,.slice d.sk.A d.sk.n d.sk.c] 59)) wr.heap.size d):=Zh (TB.new wr d);have Y:Hid (eA wr (wr.alloc (.cells #[bA d.tag,bA d.txt,bA d.key,.slice d.sa.A d.sa.n d.sa.c,.slice d.sk.A d.sk.n d.sk.c] 59))):=Zh (Zb _ _);generalize wr.alloc (.cells #[bA d.tag,bA d.txt,bA d.key,.slice d.sa.A d.sa.n d.sa.c,.slice d.sk.A d.sk.n d.sk.c] 59)=wa at I Y|-;clear g0 g1 g2 g3 g4;have U:=I.c0;have a1:=I.c1;have a2:=I.c2;have a3:=I.c3;have V:=I.c4;go_wp2_with fail;refine(CK wa Y).mono ?_;rintro e w5 ⟨rfl,b5⟩;have B5:=Zh (G.trans ((Y.trans (b5.mono Y.size)).mono G.size));clear b5;cases mk with
      |false=>
       go_wp2_with fail;go_ret;exact⟨by rw[O.out,uZ R.out Q.out];rfl,B5⟩
      |true=>
       go_wp2_with fail;go_roundw
       case rel=>exact⟨k+1,by omega,by go_num,Zh (ZX R HM Q),B5⟩
       case measure=>simp[intOf];omega
     ·obtain rfl:k=n2:=cA
      go_wp2_with fail;go_ret;refine⟨?_,G⟩;have E:=HM.out;rw[List.take_of_length_le (by have:=J.out;rw[IB];simp;omega)] at E;rw[O.out,E];rfl)
  clear h ih M;show fA 51 #[.agg #[bA tag,bA txt,bA key,.slice A n c,.slice f n2 g]] w _;go_enter func51,ntmps51;go_upto_region 1 with fail;generalize w.alloc (.cells #[bA tag,bA txt,bA key,.slice A n c,.slice f n2 g] 59)=W at i j|-;have U:W.cell? ⟨w.heap.size,0,none⟩=some (bA tag):=j.c0;have a1:W.cell? ⟨w.heap.size,1,none⟩=some (bA txt):=j.c1;have a2:W.cell? ⟨w.heap.size,2,none⟩=some (bA key):=j.c2;have a3:W.cell? ⟨w.heap.size,3,none⟩=some (.slice A n c):=j.c3;have V:W.cell? ⟨w.heap.size,4,none⟩=some (.slice f n2 g):=j.c4;cases S:tag.toList.isEmpty with
  |true=>
   go_wp2_with fail;refine(L W i S).mono ?_;rintro e X ⟨rfl,q⟩;have v:=Zh (i.trans (q.mono i.size));clear q;go_wp2_with fail;go_ret;exact⟨rfl,v⟩
  |false=>
   go_wp2_with fail;refine(Z W i S).mono ?_;rintro e X ⟨rfl,q⟩;have v:=Zh (i.trans (q.mono i.size));clear q;go_wp2_with fail;go_ret;exact⟨rfl,v⟩
end P8
namespace P14
open Go.RowKit Kd P4 P5 P11 P12 P13
attribute [local go_sem ↓] Go.wp_at_zero Go.wp_at_succ
theorem S4(op:Int)(tag key:wA)(r rest:List In)(t:PW)(A:jA)(n c C:Nat)(w:World)(hop:op=1\/op=3)(h:Rs w C A n c (⟨op,tag,key⟩:: r))(hC:C<=w.heap.size)
 (CE:∀wz:World,eA w wz->fA 177 #[.slice A n c] wz (tK wz C t rest)):fA 149 #[.slice A n c] w (tK w C t rest):=by
 obtain⟨b,o,rfl,x,f,_,_,N,Q,_,_⟩:=h.cons;have i:=Zh CE;have l:b<w.heap.size:=Nat.lt_of_lt_of_le x hC;have R:(op==4)=false:=(by rcases hop with rfl|rfl<;>rfl);have S:(op==8)=false:=(by rcases hop with rfl|rfl<;>rfl);have T:(op==7)=false:=(by rcases hop with rfl|rfl<;>rfl);simp only at f;clear h N CE hop;go_enter func149,ntmps149;go_upto_region 1 with fail;have j:Hid (WB (w.alloc (.cells #[aA 0,tA,tA,tA,vA,vA] 175)) w.heap.size EF):=Zh (WB.new w EF);have g:Hid (eA w (w.alloc (.cells #[aA 0,tA,tA,tA,vA,vA] 175))):=Zh (Zb _ _);generalize w.alloc (.cells #[aA 0,tA,tA,tA,vA,vA] 175)=y at j g|-;have O:=(g.cell (p:=(dA b o)) l).trans f;have CE:=Zh (i y g);have m:w.heap.size<y.heap.size:=j.lt;clear f i;go_wp2_with fail;refine CE.mono ?_;rintro e z ⟨a,B,D,E,rfl,k,YD,F,q⟩;have d:=Zh (j.below q j.lt);have G:=Zh (g.trans (q.mono g.size));have P:=Zh (F.back g hC);have H:Hid (qB kW z (fun b=>w.heap.size<b) a):=Zh (YD.mono (fun b _ x=>by omega));have s:=Zh k;have z0:=d.c0;have I:=d.c1;have J:=d.c2;have K:=d.c3;have L:=d.c4;have M:=d.c5;simp only[WV.kind,WV.tag,WV.key,WV.txt,WV.sa,WV.sk,EF] at z0 I J K L M;have U:=d.fr;have u:w.heap.size<z.heap.size:=d.lt;clear k YD F q O CE j m;go_wp2_with fail;refine bodyPost_ret (v:=.tuple #[.agg #[aA a.kind,bA a.tag,bA a.key,bA a.txt,.slice a.sa.A a.sa.n a.sa.c,.slice a.sk.A a.sk.n a.sk.c],.slice B D E]) (by simp[results,results149,go_sem,z0,I,J,K,L,M,u]) rfl ⟨a,B,D,E,rfl,s,?_,P,?_⟩
 ·exact(TI d H G (EA (EA (EA (EA (EA (EA (gA.refl _ _)))))))).1
 ·exact(TI d H G (EA (EA (EA (EA (EA (EA (gA.refl _ _)))))))).2
theorem ra(t:wA):pB (.mk 2 z0 z0 t [] [])=[⟨4,t,z0⟩]:=by simp[pB]
theorem ta:pB (.mk 3 z0 z0 z0 [] [])=[⟨8,z0,z0⟩]:=by simp[pB]
theorem ua:pB (.mk 4 z0 z0 z0 [] [])=[⟨7,z0,z0⟩]:=by simp[pB]
def Jp(t:PW):Prop:=∀(rest:List In) (A:jA) (n c C:Nat) (w:World),zG rest->Rs w C A n c (pB t++rest)->C<=w.heap.size->fA 149 #[.slice A n c] w (tK w C t rest)
theorem Kp{t:PW}(hwf:VB t)(IH:uK t.kids):Jp t:=by
 intro a A n c C w f h b;cases hwf with
 |el hm ha hk=>
  rw[lI (FI hm)] at h;simp only[List.cons_append,List.append_assoc,List.nil_append] at h;exact S4 1 _ _ _ a _ A n c C w (.inl rfl) h b (fun e d=>ue _ _ _ _ a A n c C e IH hk (h.below d b) (Nat.le_trans b d.size))
 |vo hm ha=>
  rw[lJ (II hm)] at h;simp only[List.cons_append] at h;exact S4 3 _ _ _ a _ A n c C w (.inr rfl) h b (fun e d=>ve _ _ _ a A n c C e f (h.below d b) (Nat.le_trans b d.size))
 |tx hm=>
  rw[ra] at h;exact WR 4 2 _ _ _ a A n c C w (.inl ⟨rfl,rfl,rfl⟩) h b
 |nd=>
  rw[ta] at h;exact WR 8 3 _ _ _ a A n c C w (.inr (.inl ⟨rfl,rfl,rfl⟩)) h b
 |al=>
  rw[ua] at h;exact WR 7 4 _ _ _ a A n c C w (.inr (.inr ⟨rfl,rfl,rfl⟩)) h b
theorem fm{t:PW}(h:VB t):∃x r,pB t=x:: r/\x.op≠2:=by
 cases h with
 |el hm=>exact⟨_,_,lI (FI hm),show(1:Int)≠2 by decide⟩
 |vo hm=>exact⟨_,_,lJ (II hm),show(3:Int)≠2 by decide⟩
 |tx=>exact⟨_,_,ra _,show(4:Int)≠2 by decide⟩
 |nd=>exact⟨_,_,ta,show(8:Int)≠2 by decide⟩
 |al=>exact⟨_,_,ua,show(7:Int)≠2 by decide⟩
theorem Stop.head{l:List In}(h:Stop l):zG l:=fun x hx=>by rw[h x hx];rfl
def Jc(w:World)(C:Nat)(ps:List PW)(rest:List In)(s0 s4:Value)(wr:World):Prop:=∃(dn td:List PW) (A:jA) (n c:Nat) (A':jA) (n' c':Nat) (us:List WV),s0= .slice A n c/\s4= .slice A' n' c'/\Hid (dn++td=ps)/\Hid (oA us=dn)/\Hid (Rs w C A n c (cB td++rest))/\Hid (kW.Own wr w.heap.size (.slice A' n' c') us)/\Hid (∀t∈us,qB kW wr (fun b=>w.heap.size<=b/\(Value.slice A' n' c').ownBlock≠some b) t)/\Hid (us.length+n<=1000)/\Hid (eA w wr)
theorem aZ(ps:List PW)(IH:∀t∈ps,uK t.kids):uK ps:=by
 intro d A n c C w O P h hC;have ST:Hid (Jc w C ps d (.slice A n c) (vA) w):=Zh ⟨[],ps,A,n,c,none,0,0,[],rfl,rfl,Zh rfl,Zh rfl,Zh h,Zh (Kind.Own.nil kW w _),Zh (fun t ht=>by cases ht),Zh (by have:=h.n1;simp;omega),Zh Ze⟩;have HS:=Zh P;have R:=Zh O;have HI:=Zh IH;clear h P O IH;go_enter func127,ntmps127;go_wp2_with fail;go_loopw [0,4] (fun s0 s4 wr=>Jc w C ps d s0 s4 wr) (fun s0 _ _=>match s0 with| .slice _ n _=>n|_=>0)
 case atStart=>exact ST
 case round=>
  obtain⟨dn,q,A,n,c,J,L,M,G,rfl,rfl,N,HU,S,T,s,HN,H⟩:=hrel;clear ST;have U:w.heap.size<=wr.heap.size:=H.size;have V:C<=wr.heap.size:=Nat.le_trans hC U;have a9:=S.n1;cases q with
  |nil=>
   have HE:Hid (dn=ps):=Zh (by have:=N.out;simpa using this);have u:Hid (Rs w C A n c d):=Zh S.out;clear S N;cases d with
   |nil=>
    obtain rfl:n=0:=by have:=u.len;simpa using this.symm
    go_wp2_with fail;go_ret2;exact⟨J,L,M,G,A,0,c,rfl,by rw[HU.out,HE.out],T,s,u,H⟩
   |cons y r=>
    obtain⟨b,o,rfl,hb,g0,_,_,hl,h0,_,_⟩:=(u.below H hC).cons;have hy:y.op=2:=HS y rfl;rw[hy] at g0;clear hl hy;go_wp2_with fail;go_ret2;exact⟨J,L,M,G,_,n,c,rfl,by rw[HU.out,HE.out],T,s,u,H⟩
  |cons t q=>
   have p:t∈ps:=(by rw[<-N.out];simp);have z:=R t p;have a6:Hid ((dn++[t])++q=ps):=Zh (by rw[<-N.out];simp);have hT:zG (cB q++d):=oP (fun k hk=>R k (by rw[<-N.out];simp[hk])) HS.head;have W:Rs wr C A n c (pB t++(cB q++d)):=(by have:=S.below H hC;rw[cB,List.append_assoc] at this;exact this);have CG:Hid (fA 149 #[.slice A n c] wr (tK wr C t (cB q++d))):=Zh (Kp z (HI t p) (cB q++d) A n c C wr hT W V);have X:Hid ((cB q++d).length<n):=Zh (by
    have h1:=W.len;have h2:=jY z;rw[List.length_append] at h1;omega)
   obtain⟨x,r,hx,I⟩:=fm z;rw[hx] at W;obtain⟨b,o,rfl,hb,g0,_,_,hl,h0,_,_⟩:=W.cons;have q1:(x.op != 2)=true:=(by simp[I]);have q2:(x.op==2)=false:=(by simp[I]);have i0:(0:Int)<(n:Int):=cA;have aa:G.length+n<=1000:=HN;clear W hx I hl hT z p N HN S;generalize x.op=xo at g0 q1 q2;go_wp2_with fail;refine CG.mono ?_;rintro e j ⟨a,A2,n2,c2,rfl,Y,D,r5,b5⟩;have b6:eA wr (j.alloc (.cells #[aA a.kind,bA a.tag,bA a.key,bA a.txt,.slice a.sa.A a.sa.n a.sa.c,.slice a.sk.A a.sk.n a.sk.c] 175)):=b5.alloc b5.size _;have bb:eA j (j.alloc (.cells #[aA a.kind,bA a.tag,bA a.key,bA a.txt,.slice a.sa.A a.sa.n a.sa.c,.slice a.sk.A a.sk.n a.sk.c] 175)):=Zb _ _;have E:Hid (WB (j.alloc (.cells #[aA a.kind,bA a.tag,bA a.key,bA a.txt,.slice a.sa.A a.sa.n a.sa.c,.slice a.sk.A a.sk.n a.sk.c] 175)) j.heap.size a):=Zh (WB.new j a);have T6:Hid (qB kW (j.alloc (.cells #[aA a.kind,bA a.tag,bA a.key,bA a.txt,.slice a.sa.A a.sa.n a.sa.c,.slice a.sk.A a.sk.n a.sk.c] 175)) (fun b=>w.heap.size<=b/\(Value.slice J L M).ownBlock≠some b) a):=Zh ((D.qC bb).mono fun b _ hb=>⟨by omega,fun e=>by have:=(T.lt e).2;omega⟩);have a7:=Zh Y;have B6:=Zh (H.trans (b6.mono U));have O6:Hid (kW.Own (j.alloc (.cells #[aA a.kind,bA a.tag,bA a.key,bA a.txt,.slice a.sa.A a.sa.n a.sa.c,.slice a.sk.A a.sk.n a.sk.c] 175)) w.heap.size (.slice J L M) G):=Zh (T.below b6 Zl);have N6:Hid (∀t∈G,qB kW (j.alloc (.cells #[aA a.kind,bA a.tag,bA a.key,bA a.txt,.slice a.sa.A a.sa.n a.sa.c,.slice a.sk.A a.sk.n a.sk.c] 175)) (fun b=>w.heap.size<=b/\(Value.slice J L M).ownBlock≠some b) t):=Zh (fun t ht=>(s t ht).qC b6);have R5:=Zh (r5.back H hC);have Z:Hid (n2<n):=Zh (by have:=R5.len;have:=X.out;omega);clear Y D r5 b5 b6 bb g0 q1 q2 CG T s X;go_upto_region 4 with fail;generalize j.alloc (.cells #[aA a.kind,bA a.tag,bA a.key,bA a.txt,.slice a.sa.A a.sa.n a.sa.c,.slice a.sk.A a.sk.n a.sk.c] 175)=w6 at E T6 B6 O6 N6|-;generalize j.heap.size=g6 at E|-;have a0:=E.c0;have a1:=E.c1;have a2:=E.c2;have a3:=E.c3;have a4:=E.c4;have a5:=E.c5;have a8:w.heap.size<=w6.heap.size:=B6.size;go_wp2_with (at_builtin;refine kW.iC rfl _ _ rfl (v:=.slice J L M) (l:=G) (m:=[a]) (B:=w.heap.size) (A:=some ⟨w6.heap.size,0,none⟩) (n:=1) (c:=1) rfl (O6.alloc _) rfl rfl RB (Kind.pA.lit (heap_alloc_new _ _) rfl) cA AA ?_;intro v7 w7 g f F;obtain⟨A7,n7,c7,rfl,_,_,_,_,_⟩:=g.slice;have GB:=FK (K:=kW) nA (Q:=fun b=>w.heap.size<=b) (k:=a) O6 N6 T6 f F;have O7:=Zh g;have G7:=Zh GB.1;have B7:Hid (eA w w7):=Zh ((B6.alloc a8 _).grown f AA (fun i hi=>(O6.lt hi).1));clear g f F GB a0 a1 a2 a3 a4 a5);go_roundw
   case rel=>exact⟨dn++[t],q,A2,n2,c2,A7,n7,c7,G++[a],rfl,rfl,a6,Zh (by rw[DK,HU.out,<-a7.out];simp[oA]),R5,O7,G7,Zh (by have:=Z.out;simp;omega),B7⟩
   case measure=>exact Z
theorem we:∀t:PW,uK t.kids:=by
 intro t
 induction t using PW.ind with
 |h kind tag key txt attrs kids ih=>exact aZ kids ih
theorem Xf(ps:List PW):uK ps:=aZ ps (fun t _=>we t)
end P14
namespace P22
open Go.RowKit Kd P4 P5 P11 P12 P13 P14
def tc(w:World)(l:List In)(e:Ending)(w':World):Prop:=∃(A':jA) (n' c':Nat) (ts:List WV),e= .returned (.tuple #[.slice A' n' c',UA (bD l:Nat)])/\oA ts=(if bD l=0 then QB l else[])/\kW.Own w' w.heap.size (.slice A' n' c') ts/\(∀t∈ts,qB kW w' (fun b=>w.heap.size<=b) t)/\eA w w'
def Dt:Prop:=∀(l:List In) (A:jA) (n c:Nat) (w:World),kX.pA w w.heap.size A l->l.length=n->n<=c->c<=maxLen->n<=1000->(∀i∈l,i.a.size<=300/\i.b.size<=300)->fA 102 #[.slice A n c] w (tc w l)
theorem VM{P:Program}{α:Type}{K:Kind P α}{w:World}{D:Nat}{A:jA}{n c:Nat}{l:List α}(h:K.Own w D (.slice A n c) l):l.length=n/\n<=c/\c<=maxLen/\(A=none->c=0)/\K.pA w w.heap.size A l:=by
 obtain⟨i,j,k,a,b,d,e,f,g⟩:=h.slice;injection a with h1 h2 h3;subst h1;subst h2;subst h3;exact⟨b,d,e,f,g⟩
theorem eV{w:World}{B:Nat}{A:jA}{n c:Nat}{ts:List WV}(ho:kW.Own w B (.slice A n c) ts)(hn:∀t∈ts,qB kW w (fun b=>B<=b) t):Wm kW w A n c ts:=by
 obtain⟨a,d,e,f,g⟩:=VM ho;exact⟨a,d,e,f,g,fun t i=>(hn t i).ok⟩
theorem km{w w':World}{B:Nat}{A:jA}{n c:Nat}{ts:List WV}{F:Nat->Prop}(ho:kW.Own w B (.slice A n c) ts)(hn:∀t∈ts,qB kW w (fun b=>B<=b) t)(b:gA F w w')(hF:∀k,B<=k->k<w.heap.size->¬F k)(na:qD w F):
 kW.Own w' B (.slice A n c) ts/\∀t∈ts,qB kW w' (fun b=>B<=b) t:=
 ⟨ho.but b (fun i a e=>hF i (ho.lt a).1 (ho.lt a).2 e),fun t f=>(((hn t f).mono (R:=fun b=>B<=b/\b<w.heap.size) (fun _ g j=>⟨j,g⟩)).but b (fun k d=>hF k d.1 d.2) na).mono (fun _ _ h=>h.1)⟩
end P22
end Go.Proofs.YtngnkmeaaneklaaGreat
