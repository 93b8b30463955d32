/- A part of the proof. No condition. -/
import Derived.Deep.RegionHeld3
import Derived.Deep.DeepCutAuto
import Derived.Test.YtimfajmknmlajaaGreatDoorM1
import Derived.Test.YtimfajmknmlajaaGreatDoorM3
import Derived.Test.YtimfajmknmlajaaGreatDoorM8
import Derived.Test.YtimfajmknmlajaaGreatDoorM14
import Derived.Test.YtimfajmknmlajaaGreatDoorM17
import Derived.Test.YtimfajmknmlajaaGreatDoorM19
import Derived.Test.YtimfajmknmlajaaGreatDoorM22
set_option linter.unusedVariables false
set_option linter.unusedSimpArgs false
set_option maxRecDepth 100000
set_option maxHeartbeats 40000000
namespace Go.Proofs.YtimfajmknmlajaaGreatDoor
open Go.Proofs.Tryz
namespace P20
open Go.RowKit Kd P4 P5 P7 P11 P12 P13 P14 P16 P19 P21 P22
def IJ(b:uA):Nat:=if(fB b).2≠0 then(fB b).2 else WD (fB b).1
def DG(d:D)(id:Int)(b:uA):Nat:=if IJ b≠0 then IJ b else match find d.l id with|none=>2|some nd=>if qC nd.tag=true then 3 else 0
theorem oP{c:Nat}(h:c≠0):QA (c:Nat)= .iface 29 (aA (c:Nat)):=by unfold QA;rw[if_neg dA]
theorem x9{s:Sg}{id:Int}{b:uA}{outer:Bool}(h:DG s.1 id b≠0):pD s id b outer=(DG s.1 id b,s):=by
 unfold DG IJ at h|-;unfold pD;by_cases a:(fB b).2≠0
 ·rw[if_pos a];simp only[a,ne_eq,not_false_eq_true,if_true]
 ·rw[if_neg a];simp only[a,if_false] at h|-;by_cases c:WD (fB b).1≠0
  ·rw[if_pos c];simp only[c,ne_eq,not_false_eq_true,if_true]
  ·rw[if_neg c];simp only[c,if_false] at h|-;cases hf:find s.1.l id with
   |none=>rfl
   |some nd=>
    rw[hf] at h;simp only at h|-;by_cases d:qC nd.tag=true
    ·rw[if_pos d,if_pos d]
    ·rw[if_neg d] at h;exact absurd rfl h
theorem look_ok{d:D}{id:Int}{b:uA}(h:DG d id b=0):(fB b).2=0/\WD (fB b).1=0/\∃nd,find d.l id=some nd/\qC nd.tag=false:=by
 unfold DG IJ at h;by_cases c:(fB b).2≠0
 ·simp only[c,ne_eq,not_false_eq_true,if_true] at h
 ·simp only[c,if_false] at h;by_cases a:WD (fB b).1≠0
  ·rw[if_pos a] at h;exact absurd h a
  ·rw[if_neg a] at h;refine⟨by omega,by omega,?_⟩;cases hf:find d.l id with
   |none=>rw[hf] at h;simp at h
   |some nd=>
    rw[hf] at h;refine⟨nd,rfl,?_⟩;cases h3:qC nd.tag with
    |false=>rfl
    |true=>simp[h3] at h
theorem y9:∀(l:List Int) (t:Int),t∈l->SD l t=l.idxOf t
 |[],_,h=>by cases h
 |a:: r,t,h=>by
  by_cases e:t=a
  ·subst e;simp[SD]
  ·have hm:t∈r:=(List.mem_cons.1 h).resolve_left e;rw[SD,if_neg e,y9 r t hm,List.idxOf_cons];have e2:(a==t)=false:=(by rw[beq_eq_false_iff_ne];exact fun x=>e x.symm);rw[e2];rfl
def ve(w:World)(b:uA)(e:Ending)(w':World):Prop:=∃(A:vA) (n c:Nat) (ts:List WV),e= .returned (.tuple #[.slice A n c,QA (IJ b:Nat)])/\yA ts=(if IJ b=0 then MB (fB b).1 else[])/\kW.Own w' w.heap.size (.slice A n c) ts/\(∀t∈ts,lC kW w' (fun k=>w.heap.size<=k) t)/\fA w w'
theorem Dv(b:uA)(A:vA)(n c:Nat)(w:World)(hh:kB.AA w w.heap.size A b)(hn:b.length=n)(qD:n<=c)(UC:c<=maxLen)(hl:n<=100000):
 jA 128 #[.slice A n c] w (ve w b):=by
 have a:jA 167 #[.slice A n c] w (aQ w (fB b)):=fx b A n c w hh hn qD UC hl;have q2:=qF;have q3:=AF;have l:=Zh (Km b);have m:=Zh (Ug b);have d:Hid (IJ b=if(fB b).2≠0 then(fB b).2 else WD (fB b).1):=Zh rfl;obtain⟨O,o⟩:=DA ((fB b).2);unfold aQ at a;rw[o] at a d;clear hh hn qD UC hl o;by_cases p:O=0
 ·subst p;have e0:QA (((0:Nat):Nat):Int)= .nilIface:=rfl;rw[e0] at a;have q:=Zh a;have g:=d.out;rw[if_neg FA] at g;have r:=Zh g;clear a d g e0;go_enter func128,ntmps128;go_wp2_with fail;refine q.mono ?_;rintro e E ⟨I,J,K,rfl,z,B,C,F,D,s⟩;have u:=Zh s;have f:=dx (fB b).1 I J K E D z B C (IA m.out) (fun i P=>by have:=DQ (l i P);omega);unfold Zd at f;obtain⟨ev,j⟩:=DA (QA ((WD (fB b).1:Nat):Int));rw[j] at f;have G:=Zh j;have L:=Zh f;clear z B C F D s f j q;go_wp2_with fail;refine L.mono ?_;rintro e w2 ⟨Q,R,S,T,rfl,v,x,y,M⟩;have U:=Zh v;have V:=Zh x;have W:=Zh y;have X:=Zh (u.trans (M.mono u.size));have N:=u.size;clear v x y M L;go_wp2_with fail;go_ret2;exact⟨Q,R,S,T,by rw[r.out,G.out];rfl,by rw[r.out,U.out],V.dE N,fun t H=>(W t H).mono (fun _ _ h=>Nat.le_trans N h),X⟩
 ·have e0:=oP p;rw[e0] at a;have q:=Zh a;have g:=d.out;rw[if_pos p] at g;have r:=Zh g;have Y:=Zh p;have Z:=Zh e0;clear a d g e0 p;go_enter func128,ntmps128;go_wp2_with fail;refine q.mono ?_;rintro e E ⟨I,J,K,rfl,z,B,C,F,D,s⟩;have u:=Zh s;clear z B C F D s q;go_wp2_with fail;go_ret2;exact⟨none,0,0,[],by rw[r.out,Z.out];rfl,by rw[r.out,if_neg Y.out];rfl,Kind.Own.nil kW E _,(fun t H=>by cases H),u⟩
theorem Ok{t:qA}{e vd:Bool}(h1:t.toList.isEmpty=e)(h2:P1.dC t.data.toList=vd):qC t=(e || vd):=by
 unfold qC;rw[h2,<-h1];congr 1;cases h:t.toList with
 |nil=>rfl
 |cons _ _=>rfl
abbrev LM:Nd:=⟨0,0,⟨#[]⟩,⟨#[]⟩,⟨#[]⟩,[],[],0⟩
def iO(w:World)(k:Nat)(e:Ending)(w':World):Prop:=e= .returned (.tuple #[.agg oE,tA,QA (k:Nat)])/\fA w w'
def nW(w:World)(d:D)(id:Int)(b:uA)(e:Ending)(w':World):Prop:=∃(nd:Nd) (A:vA) (n c:Nat) (A2:vA) (n2 c2:Nat) (A3:vA) (n3 c3:Nat) (ts:List WV),e= .returned (.tuple #[.agg (bB nd A n c A2 n2 c2),.slice A3 n3 c3,.nilIface])/\find d.l id=some nd/\kI.Own w' w.heap.size (.slice A2 n2 c2) nd.kids/\yA ts=MB (fB b).1/\kW.Own w' w.heap.size (.slice A3 n3 c3) ts/\(∀t∈ts,lC kW w' (fun k=>w.heap.size<=k) t)/\fA w w'
def ix(w:World)(d:D)(id:Int)(b:uA)(e:Ending)(w':World):Prop:=(DG d id b≠0/\iO w (DG d id b) e w')\/(DG d id b=0/\nW w d id b e w')
theorem XS{w:World}{g:Nat}{nd:Nd}{A:vA}{n c:Nat}{A2:vA}{n2 c2:Nat}(h:lB w g nd A n c A2 n2 c2):w.cell? (cA g 0)=some (aA nd.id)/\w.cell? (cA g 1)=some (aA nd.par)/\w.cell? (cA g 2)=some (bA nd.tag)/\w.cell? (cA g 3)=some (bA nd.txt)/\w.cell? (cA g 4)=some (bA nd.key)/\w.cell? (cA g 5)=some (.slice A n c)/\w.cell? (cA g 6)=some (.slice A2 n2 c2)/\w.cell? (cA g 7)=some (aA nd.note)/\(∀i,w.frozen? (cA g i)=false)/\g<w.heap.size:=
 ⟨h.c0,h.c1,h.c2,h.c3,h.c4,h.c5,h.c6,h.c7,h.frozen,h.lt⟩
theorem Mt{l:List Nd}{i:Int}(h:nA l i=false):find l i=none:=by
 cases hf:find l i with
 |none=>rfl
 |some x=>have:=vK hf;rw[h] at this;cases this
theorem Cp{w w2 wf:World}{C:Nat}{d:D}{id:Int}{b:uA}{nd:Nd}{A A2 A3:vA}{n c n2 c2 n3 c3:Nat}{ts:List WV}(hB:fA w w2)(hD:w.heap.size<C)(hf:find d.l id=some nd)(hK:kI.Own w2 C (.slice A2 n2 c2) nd.kids)(he:yA ts=MB (fB b).1)(hO:kW.Own w2 C (.slice A3 n3 c3) ts)(hN:∀t∈ts,lC kW w2 (fun k=>C<=k) t)
 (hz:∃cur,w2.heap[w.heap.size]? = some (.cells cur 53 (0,0))) (hb:iA (fun k=>k=w.heap.size) w2 wf):nW w d id b (.returned (.tuple #[.agg (bB nd A n c A2 n2 c2),.slice A3 n3 c3,.nilIface])) wf:=by
 obtain⟨cur,j⟩:=hz;have l:vC w2 (fun k=>k=w.heap.size):=by
  rintro k c f rfl i;exact WA j i pA rfl
 exact⟨nd,A,n,c,A2,n2,c2,A3,n3,c3,ts,rfl,hf,(hK.but hb (fun g a e=>by have:=(hK.lt a).1;omega)).dE dA,he,(hO.but hb (fun g a e=>by have:=(hO.lt a).1;omega)).dE dA,fun t m=>((hN t m).but hb (fun k i e=>by omega) l).mono (fun _ _ h=>by omega),rF hB hb⟩
section
variable{w:World}{B p:Nat}{x:Dx}
theorem I9(g:Nat)(id:Int)(b:uA)(A:vA)(n c:Nat)(h:Dc w B p x)(hw:WF x.d)(hh:kB.AA w w.heap.size A b)(hn:b.length=n)(qD:n<=c)(UC:c<=maxLen)(hl:n<=100000):
 jA 84 #[lA g,lA p,aA id,.slice A n c] w (ix w x.d id b):=by
 have q2:=qF;have q3:=AF;have H:=Zh h;have HW:=Zh hw;have l:Hid (fA w (w.alloc (.cells oE 53))):=Zh ((Below.refl _ w).alloc Zl _);have u:Hid (lB (w.alloc (.cells oE 53)) w.heap.size LM none 0 0 none 0 0):=Zh (heap_alloc_new w _);have HH:=Zh (hh.on l);have HN:Hid (b.length=n/\n<=c/\c<=maxLen/\n<=100000):=Zh ⟨hn,qD,UC,hl⟩;clear h hw hh hn qD UC hl;go_enter func84,ntmps84;go_wp2_with fail;obtain⟨gz,r⟩:=DA w.heap.size;generalize w.alloc (.cells oE 53)=W at l u HH|-;rw[r] at u|-;have s:=Zh r;clear r;have i:=Dv b A n c W HH HN.1 HN.2.1 HN.2.2.1 HN.2.2.2;have m:Hid (DG x.d id b=if IJ b≠0 then IJ b else match find x.d.l id with|none=>2|some a=>if qC a.tag=true then 3 else 0):=Zh rfl;obtain⟨lc,V⟩:=DA (DG x.d id b);have f:=Zh V;obtain⟨rc,a0⟩:=DA (IJ b);unfold ve at i;rw[a0] at i m;rw[V] at m;clear V a0 HH HN;by_cases h0:rc=0
 ·subst h0;have j:=m.out;rw[if_neg FA] at j;have d:=Zh j;have e0:QA (((0:Nat):Nat):Int)= .nilIface:=rfl;rw[e0] at i;have CR:=Zh i;clear i e0 m j;go_wp2_with fail;refine CR.mono ?_;rintro e w1 ⟨A3,n3,c3,ts,rfl,y,z,C,G⟩;have HE:Hid (yA ts=MB (fB b).1):=Zh (by rw[y];simp);have B1:=Zh (l.trans (G.mono l.size));have O1:=Zh z;have N1:=Zh C;have GW:=Zh (JA u);have a6:W.heap.size<=w1.heap.size:=G.size;have Z1:=Zh (u.below G (JA u));have D:=tS id w1 HW (H.below B1);unfold vW at D;obtain⟨hb,X⟩:=DA (nA x.d.l id);rw[X] at D;have a1:=Zh X;have CN:=Zh D;clear y z C G CR D X u;go_upto_region 7 with(go_at_call 18;refine CN.mono ?_;rintro e I ⟨a,J,K,L,M,N,O,rfl,a2,a7,a8,a9,a3,o⟩);have B2:Hid (fA w (I.alloc (.cells (bB a J K L M N O) 53))):=Zh (B1.trans ((o.alloc o.size _).mono B1.size));have BX:Hid (fA w1 (I.alloc (.cells (bB a J K L M N O) 53))):=Zh (o.alloc o.size _);have NB:=Zh (lB.new I a J K L M N O);have a4:=Zh ((a3.dE a6).alloc (.cells (bB a J K L M N O) 53));have HF:Hid (hb=true->find x.d.l id=some a):=Zh a2;have GL:=Zh (Nat.lt_of_lt_of_le (JA Z1) o.size);clear CN a2 a7 a8 a9 a3 o;generalize I.heap.size=gn at NB GL|-;generalize I.alloc (.cells (bB a J K L M N O) 53)=w2 at B2 BX NB a4|-;have Z2:=Zh (Z1.below BX (JA Z1));have O2:=Zh (O1.below BX Zl);have N2:Hid (∀t∈ts,lC kW w2 (fun k=>W.heap.size<=k) t):=Zh (fun t ht=>(N1 t ht).later BX);obtain⟨P,Q,R,S,T,r5,r6,U,rf,q⟩:=XS Z2;simp only[LM] at P Q R S T U;clear Z1 O1 N1 BX B1;cases hb with
  |false=>
   have E:=d.out;rw[Mt a1.out] at E;simp only at E;have H2:=Zh E;clear E d NB;go_wp2_with fail;refine bodyPost_ret (v:=.tuple #[.agg oE,tA,.iface 29 (aA 2)]) (by simp[results,results84,go_sem,P,Q,R,S,T,r5,r6,U,q]) rfl (.inl ⟨by rw[f.out,H2.out];decide,by rw[f.out,H2.out];rfl,rF B2 ?_⟩);rw[s.out];exact mA (mA (mA (mA (mA (mA (mA (mA (iA.refl _ _))))))))
  |true=>
   have Y:=HF rfl;have E:=d.out;rw[Y] at E;simp only at E;have aa:=Zh Y;have HQ:=Zh E;have c2:=NB.c2;obtain⟨vd,Z⟩:=DA (P1.dC a.tag.data.toList);obtain⟨et,ab⟩:=DA a.tag.toList.isEmpty;have CV:=Zh (P1.eN a.tag w2);rw[Z] at CV;have a5:=Zh (Ok ab Z);clear Z Y E d a1;by_cases F:(et || vd)=true
   ·have H3:Hid (lc=3):=Zh (by rw[HQ.out,a5.out,if_pos F]);clear HQ;cases et with
    |true=>
     go_wp2_with fail;refine bodyPost_ret (v:=.tuple #[.agg oE,tA,.iface 29 (aA 3)]) (by simp[results,results84,go_sem,P,Q,R,S,T,r5,r6,U,q]) rfl (.inl ⟨by rw[f.out,H3.out];decide,by rw[f.out,H3.out];rfl,rF B2 ?_⟩);rw[s.out];exact mA (mA (mA (mA (mA (mA (mA (mA (iA.refl _ _))))))))
    |false=>
     obtain rfl:vd=true:=by simpa using F
     go_wp2_with fail;refine PA CV ?_;go_wp2_with fail;refine bodyPost_ret (v:=.tuple #[.agg oE,tA,.iface 29 (aA 3)]) (by simp[results,results84,go_sem,P,Q,R,S,T,r5,r6,U,q]) rfl (.inl ⟨by rw[f.out,H3.out];decide,by rw[f.out,H3.out];rfl,rF B2 ?_⟩);rw[s.out];exact mA (mA (mA (mA (mA (mA (mA (mA (iA.refl _ _))))))))
   ·have H3:Hid (lc=0):=Zh (by rw[HQ.out,a5.out,if_neg F]);obtain⟨rfl,rfl⟩:et=false/\vd=false:=by cases et<;>cases vd<;>simp_all
    clear HQ F;go_wp2_with fail;refine PA CV ?_;obtain⟨s0,s1,s2,s3,s4,s5,s6,s7,sf,ac⟩:=XS NB;clear c2;go_wp2_with fail;refine bodyPost_ret (v:=.tuple #[.agg (bB a J K L M N O),.slice A3 n3 c3,.nilIface]) (by simp[results,results84,go_sem,P,Q,R,S,T,r5,r6,U,q]) rfl (.inr ⟨by rw[f.out,H3.out],?_⟩);have r:=s.out;subst r;exact Cp B2 GW aa a4 HE O2 N2 ⟨_,Z2⟩ (mA (mA (mA (mA (mA (mA (mA (mA (iA.refl _ _)))))))))
 ·have j:=m.out;rw[if_pos h0] at j;have d:=Zh j;have e0:=oP h0;rw[e0] at i;have CR:=Zh i;have E0:=Zh e0;have H0:=Zh h0;clear i e0 h0 m j;go_wp2_with fail;refine CR.mono ?_;rintro e w1 ⟨A3,n3,c3,ts,rfl,y,z,C,G⟩;have B1:=Zh (l.trans (G.mono l.size));obtain⟨P,Q,R,S,T,r5,r6,U,rf,q⟩:=XS (u.below G (JA u));simp only[LM] at P Q R S T U;clear y z C G CR u;go_wp2_with fail;refine bodyPost_ret (v:=.tuple #[.agg oE,tA,.iface 29 (aA (rc:Nat))]) (by simp[results,results84,go_sem,P,Q,R,S,T,r5,r6,U,q]) rfl (.inl ⟨by rw[f.out,d.out];exact H0,by rw[f.out,d.out,E0.out],rF B1 ?_⟩);rw[s.out];exact mA (mA (mA (mA (mA (mA (mA (mA (iA.refl _ _))))))))
end
section
variable{w w' w2:World}{B g p:Nat}{x:Dx}{vd:Value}{rs:List RR}
theorem J9{m:Nat}(ts:List WV)(A:vA)(n c:Nat)(hm:x.rs.length=m)(h:Dc w B p x)(hw:Wm kW w A n c ts)(hc:cD (yA ts)<=1000):
 jA 85 #[lA p,.slice A n c] w fun e w'=>e= .returned (.bool (decide (((xB (yA ts):Nat):Int)<=(x.R:Int)-m)))/\fA w w':=by
 have a:=Zh (P18.Gt ts A n c w hw hc);have H:=Zh h;have j:=Zh hm;obtain⟨k,d⟩:=DA (((xB (yA ts):Nat):Int));rw[d] at a|-;clear hw hc h hm d;go_enter func85,ntmps85;go_wp2_with fail;refine a.mono ?_;rintro e l ⟨rfl,b⟩;have f:=Zh b;have g:=Zh (X4 l j (H.below b));clear b a;go_wp2_with fail;refine g.mono ?_;rintro e q ⟨rfl,i⟩;have o:=Zh (f.trans (i.mono f.size));clear i g;go_wp2_with fail;go_ret;exact⟨rfl,o⟩
theorem Tb{d:D}(hw:WF d){nd:Nd}(hf:find d.l nd.id=some nd)(h0:nd.par≠0):nd.id∈xA d.l nd.par:=by
 have a:EA d.l nd.id=nd.par:=sV hf;have:=hw.tr.par nd.id (by rw[a];exact h0);rw[a] at this;exact this
def de(w:World)(i:Int)(e:Ending)(w':World):Prop:=e= .returned (aA i)/\fA w w'
theorem Uh(nd:Nd)(A:vA)(n c:Nat)(A2:vA)(n2 c2:Nat)(hw:WF x.d)(hf:find x.d.l nd.id=some nd)(h0:nd.par≠0)(w:World)(h:Dc w B p x):
 jA 87 #[lA p,.agg (bB nd A n c A2 n2 c2)] w (de w (sI (xA x.d.l nd.par) nd.id)):=by
 have H:=Zh h;have U:=Zh hw;have v:=Zh (Tb hw hf h0);have y:Hid (fA w (w.alloc (.cells (bB nd A n c A2 n2 c2) 53))):=Zh ((Below.refl _ w).alloc Zl _);have q:=Zh (lB.new w nd A n c A2 n2 c2);obtain⟨f,g⟩:=DA (xA x.d.l nd.par);have C:=Zh g;have O:f.length<=200:=(by rw[<-g];exact LJ hw nd.par);rw[g] at v|-;obtain⟨z,P⟩:=DA (sI f nd.id);have V:=Zh P;rw[P];clear h hw hf h0 g P;go_enter func87,ntmps87;go_upto_region 1 with fail;obtain⟨gw,D⟩:=DA w.heap.size;generalize w.alloc (.cells (bB nd A n c A2 n2 c2) 53)=W at y q|-;rw[D] at q|-;clear D;have c1:=q.c1;have X:=Zh (tS nd.par W U (H.below y));clear U H;go_upto_region 2 with(go_at_call 18;refine X.mono ?_;rintro e r ⟨a,s,t,u,i,b,j,rfl,Q,R,E,S,F,l⟩);have Y:=Zh (E.trans C);have J:Hid (fA W (r.alloc (.cells (bB a s t u i b j) 53))):=Zh (l.alloc l.size _);have K:=Zh (lB.new r a s t u i b j);have L:=Zh (F.alloc (.cells (bB a s t u i b j) 53));clear X Q R E S F l C;generalize r.heap.size=gn at K|-;generalize r.alloc (.cells (bB a s t u i b j) 53)=w2 at J K L|-;have Z:=Zh (y.trans (J.mono y.size));have d0:=(q.below J (JA q)).c0;have d6:=K.c6;rw[Y.out] at L;obtain⟨M,o2,o3,o4,T⟩:=UN L;have HO:=Zh T;have HL:=Zh M;have m:=WM f nd.id i b j w2 M dA v T;have G:=dV v;rw[M] at G;have d:=V.out;unfold sI at d;rw[<-y9 f nd.id v.out] at d;obtain⟨k,hk⟩:=DA (SD f nd.id);rw[hk] at m G d;have I:=Zh d;have CX:=Zh m;have a0:b<=200:=dA;have a1:IntKind.i64.wrap ((k:Int)+1)=((k+1:Nat):Int):=by
  simp[IntKind.wrap,IntKind.bits,IntKind.signed];omega
 clear M o2 o3 o4 T m d hk c1 q K J y L Y v V O;go_upto_region 3 with(go_at_call 133;refine PA CX ?_);by_cases he:k+1=b
 ·have hq:(((k+1:Nat):Int)==(b:Int))=true:=jB;have N:Hid (z=0):=Zh (by rw[<-I.out,List.drop_of_length_le (by rw[HL.out];omega)];rfl);clear he;go_wp2_with fail;go_ret;exact⟨by rw[N.out];rfl,Z⟩
 ·have hq:(((k+1:Nat):Int)==(b:Int))=false:=jB;have o:k+1<f.length:=(by rw[HL.out];omega);have N:Hid (z=f[k+1]):=Zh (by rw[<-I.out,List.drop_eq_getElem_cons o];rfl);obtain⟨b6,o6,rfl,a2,x1⟩:=yE HO o;generalize f[k+1]=z1 at x1 N;have i1:(0:Int)<=((k+1:Nat):Int):=dA;have i2:((k+1:Nat):Int)<(b:Int):=dA;clear he o;go_wp2_with fail;go_ret;exact⟨by rw[N.out];rfl,Z⟩
theorem oW(hd:Dc w B p x)(hl:Lg w B g p vd rs){k:Nat}(hk:EF p x g vd k):k<w.heap.size:=hk.elim hd.lt hl.lt
theorem Nt(hd:Dc w B p x)(hl:Lg w B g p vd rs)(hb:fA w w'):wB w B g p x vd x vd rs w':=⟨hd.below hb,hl.below hb,iA.oB hb _,fun _ a=> .inl a,fun _ a=> .inl a⟩
theorem cN{k:Nat}{id:Int}{b:uA}{outer:Bool}(hd:Dc w B p x)(hl:Lg w B g p vd rs)(hb:fA w w')(hr:pD (x.d,rs.map (·.r)) id b outer=(k,(x.d,rs.map (·.r)))):tI w B g p x vd rs id b outer (.returned (QA (k:Nat))) w':=
 ⟨x,vd,rs,by rw[hr],Nt hd hl hb,by rw[hr]⟩
theorem Pk{id par beh:Int}{ids:List Int}{want:List PW}{b:uA}{outer:Bool}{e:Ending}(hd:Dc w B p x)(hl:Lg w B g p vd rs)(hb:fA w w2)(hr:pD (x.d,rs.map (·.r)) id b outer=(0,uB (dL want+1) (x.d,rs.map (·.r)) par ids beh want))(hs:PF x.d.l par ids beh)(hp:nA x.d.l par=true)(ok:cG (dL want+1) (x.d,rs.map (·.r)) par ids beh want)
 (h:Dd w2 B g p x vd rs par ids beh want e w'):∃c:Int,e= .returned (QA c)/\tI w B g p x vd rs id b outer (.returned (QA c)) w'/\∀k,w.heap.size<=k->k<w2.heap.size->w'.heap[k]? = w2.heap[k]?:=by
 obtain⟨j,l,d,f,m,a,_,n⟩:=h;obtain⟨o,q⟩:=n hs hp ok;subst o;refine⟨0,m,⟨l,d,f,by rw[hr];rfl,⟨a.dc,a.lg,(iA.oB hb _).trans a.but (fun _ _ h=>h),fun k i=>(a.ft k i).imp (fun e=>e) (fun e=>Nat.le_trans hb.size e),fun k i=>(a.lf k i).imp (fun e=>e) (fun e=>Nat.le_trans hb.size e)⟩,by rw[hr];exact q⟩,fun k u s=>a.but.block k s (fun t=>by have:=oW hd hl t;omega)⟩
theorem Qk{A:vA}{n c:Nat}{ts:List WV}(hd:Dc w B p x)(hl:Lg w B g p vd rs)(hb:fA w w2)(ho:kW.Own w2 w.heap.size (.slice A n c) ts)(hn:∀t∈ts,lC kW w2 (fun k=>w.heap.size<=k) t):∀w',iA (EF p x g vd) w2 w'->Wm kW w' A n c ts:=fun w' h=>by
 obtain⟨a,b⟩:=zp ho hn h (fun k e _ d=>by have:=oW hd hl d;omega) (EV (hd.below hb).QE (hl.below hb).QE);exact XV a b
theorem Dp{A:vA}{n c:Nat}{l:List Int}(hd:Dc w B p x)(hl:Lg w B g p vd rs)(ho:kI.Own w2 w.heap.size (.slice A n c) l):∀w',iA (EF p x g vd) w2 w'->kI.AA w' w'.heap.size A l:=fun w' h=>
 (UN (ho.but h (fun k a b=>by have:=(ho.lt a).1;have:=oW hd hl b;omega))).2.2.2.2
end
structure jQ(w:World)(B g p:Nat)(x:Dx)(vd:Value)(rs:List RR)(b:uA)(A:vA)(n c:Nat):Prop where
 dc:Dc w B p x
 iK:SC x.d
 nD:x.n<=80000
 lg:Lg w B g p vd rs
 len:rs.length<=100000
 holds:kB.AA w w.heap.size A b
 hn:b.length=n
 qD:n<=c
 UC:c<=maxLen
 hl:n<=100000
section
variable{w w2:World}{B g p:Nat}{x:Dx}{vd:Value}{rs:List RR}{b:uA}{A:vA}{n c:Nat}{id:Int}
theorem Q9(h:jQ w B g p x vd rs b A n c)(hk:DG x.d id b≠0):jA 84 #[lA g,lA p,aA id,.slice A n c] w (iO w (DG x.d id b)):=
 (I9 g id b A n c h.dc h.iK.1 h.holds h.hn h.qD h.UC h.hl).mono (fun e w' d=>d.elim (fun d=>d.2) (fun d=>absurd d.1 hk))
theorem S9(h:jQ w B g p x vd rs b A n c)(hk:DG x.d id b=0):jA 84 #[lA g,lA p,aA id,.slice A n c] w (nW w x.d id b):=
 (I9 g id b A n c h.dc h.iK.1 h.holds h.hn h.qD h.UC h.hl).mono (fun e w' d=>d.elim (fun d=>absurd hk d.1) (fun d=>d.2))
theorem Ot(hk:WD (fB b).1=0):(∀x∈MB (fB b).1,tC x)/\(∀x∈MB (fB b).1,DH x)/\pC (MB (fB b).1)<=120/\cD (MB (fB b).1)<=120:=
 ⟨(GQ hk).2,fun x hx=>xu (P17.Jm hk x hx),(lP hk).1,(lP hk).2⟩
def QS(w w2:World)(B g p:Nat)(x:Dx)(vd:Value)(rs:List RR)(id:Int)(b:uA)(outer:Bool)(e:Ending)(w':World):Prop:=∃c:Int,e= .returned (QA c)/\tI w B g p x vd rs id b outer (.returned (QA c)) w'/\∀k,w.heap.size<=k->k<w2.heap.size->w'.heap[k]? = w2.heap[k]?
def ee(w:World)(gn:Nat)(nd:Nd)(A1:vA)(n1 c1:Nat)(A2:vA)(n2 c2:Nat)(B g p:Nat)(x:Dx)(vd:Value)(rs:List RR)(id:Int)(b:uA)(outer:Bool)(e:Ending)(w':World):Prop:=∃c:Int,e= .returned (QA c)/\tI w B g p x vd rs id b outer (.returned (QA c)) w'/\lB w' gn nd A1 n1 c1 A2 n2 c2
theorem Px{gn:Nat}{nd:Nd}{A1 A2:vA}{n1 c1 n2 c2:Nat}{outer:Bool}{e:Ending}{w':World}(h:QS w w2 B g p x vd rs id b outer e w')(hg:w.heap.size<=gn)(hn:lB w2 gn nd A1 n1 c1 A2 n2 c2):ee w gn nd A1 n1 c1 A2 n2 c2 B g p x vd rs id b outer e w':=by
 obtain⟨m,a,c,d⟩:=h;exact⟨m,a,c,(d gn hg hn.lt).trans hn⟩
def fe(w2 w3:World)(i:Int)(e:Ending)(w':World):Prop:=e= .returned (aA i)/\fA w2 w'/\∀(k:Nat) (o:Obj),w3.heap[k]? = some o->w'.heap[k]? = some o
theorem Qx{w3:World}{i:Int}{p:Nat}{v:Value}(hb:fA w2 w3)(h:jA 87 #[lA p,v] w3 (de w3 i)):jA 87 #[lA p,v] w3 (fe w2 w3 i):=
 h.mono (fun e w' d=>⟨d.1,hb.trans (d.2.mono hb.size),fun k o a=>(d.2.block k (JA a)).trans a⟩)
theorem U9(h:jQ w B g p x vd rs b A n c)(hb:fA w w2)(hk:WD (fB b).1=0){A3:vA}{n3 c3:Nat}{ts:List WV}(he:yA ts=MB (fB b).1)(ho:kW.Own w2 w.heap.size (.slice A3 n3 c3) ts)(hn:∀t∈ts,lC kW w2 (fun k=>w.heap.size<=k) t)
 (par beh:Int) (ids:List Int) {A2:vA} {n2 c2:Nat} (hi:kI.Own w2 w.heap.size (.slice A2 n2 c2) ids) (h2:n2<=1000) (outer:Bool) (hr:pD (x.d,rs.map (·.r)) id b outer=(0,uB (dL (MB (fB b).1)+1) (x.d,rs.map (·.r)) par ids beh (MB (fB b).1)))
 (hs:PF x.d.l par ids beh) (hp:nA x.d.l par=true) (hkid:qC (RA x.d.l par)=false) (hroom:x.d.l.length+xB (MB (fB b).1)<=x.d.R):
 jA 86 #[lA g,lA p,aA par,.slice A2 n2 c2,aA beh,.slice A3 n3 c3] w2 (QS w w2 B g p x vd rs id b outer):=by
 obtain⟨d,f,s,u⟩:=Ot hk;obtain⟨i,j,l,m,_⟩:=UN hi;have a:=h.iK.1;have hx:=h.nD;have v:=h.len;have o:cG (dL (MB (fB b).1)+1) (x.d,rs.map (·.r)) par ids beh (MB (fB b).1):=Rg a (yP a) hs hp hkid d f hroom;have C:=wv.run w2 B g p x vd rs par ids A2 n2 c2 beh A3 n3 c3 ts (h.dc.below hb) a (yP a) (h.lg.below hb) (Dp h.dc h.lg hi) i j l m h2 (Qk h.dc h.lg hb ho hn) (by rw[he];exact d) (by rw[he];omega) (by rw[he];omega) (by rw[he];omega);rw[he] at C;exact C.mono (fun e w' q=>Pk h.dc h.lg hb hr hs hp o q)
theorem Vh{d:D}{nd:Nd}(hf:find d.l id=some nd):PF d.l id nd.kids 0:=⟨[],[],by rw[EI hf];simp,rfl⟩
theorem V9{d:D}{nd:Nd}{i:Int}(hf:find d.l i=some nd):RA d.l i=nd.tag:=by
 unfold RA;rw[hf]
theorem FP{s:Sg}{id:Int}{b:uA}{outer:Bool}{nd:Nd}(g1:(fB b).2=0)(g2:WD (fB b).1=0)(hf:find s.1.l id=some nd)(hk:qC nd.tag=false):pD s id b outer=if outer=true/\(nd.par=0\/1<(MB (fB b).1).length) then(4,s) else if s.1.R<s.1.l.length+xB (MB (fB b).1) then(6,s) else if outer=false then(0,uB (dL (MB (fB b).1)+1) s id nd.kids 0 (MB (fB b).1)) else(0,uB (dL (MB (fB b).1)+1) s nd.par [id] (sI (xA s.1.l nd.par) id) (MB (fB b).1)):=by
 unfold pD;rw[if_neg (by rw[g1];decide),if_neg (by rw[g2];decide),hf];simp only;rw[if_neg (by rw[hk];decide)]
theorem Rk(h:jQ w B g p x vd rs b A n c):jA 48 #[lA g,lA p,aA id,.slice A n c] w (tI w B g p x vd rs id b false):=by
 have q2:=qF;have q3:=AF;have o:=Zh h;by_cases q:DG x.d id b=0
 ·have H:=Zh (S9 h q);obtain⟨g1,g2,a,I,J⟩:=look_ok q;have HG:=Zh g1;have HC:=Zh g2;have f:=Zh I;have u:=Zh J;clear h q g1 g2 I J;go_enter func48,ntmps48;go_wp2_with fail;refine H.mono ?_;rintro e l ⟨nd,K,L,M,C,D,E,A3,n3,c3,ts,rfl,hf,ok,N,ow,nw,O⟩;have HE:=Zh N;have P:=Zh O;have a2:=Zh ok;have a3:=Zh ow;have a4:=Zh nw;obtain rfl:a=nd:=by have:=f.out;rw[hf] at this;exact(Option.some.inj this).symm
  clear N O ok ow nw H hf;go_upto_region 4 with fail;have Q:Hid (fA l (l.alloc (.cells (bB a K L M C D E) 53))):=Zh ((Below.refl _ l).alloc Zl _);have R:=Zh (lB.new l a K L M C D E);generalize l.heap.size=gn at R|-;generalize l.alloc (.cells (bB a K L M C D E) 53)=w2 at Q R|-;have S:=Zh (P.trans (Q.mono P.size));have T:=Zh (a2.below Q Zl);have U:=Zh (a3.below Q Zl);have V:Hid (∀t∈ts,lC kW w2 (fun k=>w.heap.size<=k) t):=Zh (fun t ht=>(a4 t ht).later Q);obtain⟨W,X⟩:=lP HC;have i:=J9 ts A3 n3 c3 rfl (o.dc.below S) (XV U V) (by rw[HE.out];omega);rw[HE.out,<-dG] at i;have d6:=R.c6;by_cases d:x.d.R<x.d.l.length+xB (MB (fB b).1)
  ·have Y:decide (((xB (MB (fB b).1):Nat):Int)<=(x.R:Int)-(x.l.length:Nat))=false:=by
    have h1:x.R<x.l.length+xB (MB (fB b).1):=d;simp;omega
   rw[Y] at i;have CF:=Zh i;have HR:Hid (pD (x.d,rs.map (·.r)) id b false=(6,(x.d,rs.map (·.r)))):=Zh (by
    rw[FP HG.out HC.out (s:=(x.d,rs.map (·.r))) f.out u.out,if_neg (fun e=>by cases e.1),if_pos d])
   clear i Y d W X;go_wp2_with fail;refine CF.mono ?_;rintro e v ⟨rfl,F⟩;have B3:=Zh (S.trans (F.mono S.size));clear F;go_wp2_with fail;go_ret;exact cN (k:=6) o.dc o.lg B3 HR
  ·have Y:decide (((xB (MB (fB b).1):Nat):Int)<=(x.R:Int)-(x.l.length:Nat))=true:=by
    have h1:¬x.R<x.l.length+xB (MB (fB b).1):=d;simp;omega
   rw[Y] at i;have CF:=Zh i;have G:pD (x.d,rs.map (·.r)) id b false=(0,uB (dL (MB (fB b).1)+1) (x.d,rs.map (·.r)) id a.kids 0 (MB (fB b).1)):=by
    rw[FP HG.out HC.out (s:=(x.d,rs.map (·.r))) f.out u.out,if_neg (fun e=>by cases e.1),if_neg d,if_pos rfl]
   have Z:=LJ o.iK.1 id;rw[EI f.out] at Z;obtain⟨o1,_⟩:=UN T;have CW:Hid (∀v,fA w2 v->jA 86 #[lA g,lA p,aA id,.slice C D E,aA 0,.slice A3 n3 c3] v (QS w v B g p x vd rs id b false)):=Zh (fun v h3=>
    U9 o (S.trans (h3.mono S.size)) HC HE (U.below h3 Zl) (fun t ht=>(V t ht).later h3) id 0 a.kids (T.below h3 Zl) dA false G (Vh f) (vK f) (by rw[V9 f.out];exact u) dA)
   clear i Y d W X G o1 Z;go_wp2_with fail;refine CF.mono ?_;rintro e v ⟨rfl,F⟩;have d6:=(R.below F R.lt).c6;have a0:=Zh (CW v F);clear F CF CW;go_wp2_with fail;refine a0.mono ?_;rintro e w4 ⟨m,rfl,hv,_⟩;have HV:=Zh hv;clear hv a0;obtain⟨ev,a1⟩:=DA (QA m);rw[a1] at HV|-;clear a1;go_wp2_with fail;go_ret;exact HV
 ·have j:=Q9 h q;unfold iO at j;have G:=x9 (s:=(x.d,rs.map (·.r))) (outer:=false) q;have HR:=Zh G;have e0:=oP q;obtain⟨lc,y⟩:=DA (DG x.d id b);have z:=G;rw[show DG (x.d,rs.map (·.r)).1 id b=lc from y] at z;have a5:=Zh z;rw[y] at j e0;have a6:Hid (∀w',fA w w'->tI w B g p x vd rs id b false (.returned (.iface 29 (aA (lc:Nat)))) w'):=Zh (fun w' hb=>by rw[<-e0];exact cN o.dc o.lg hb a5);rw[e0] at j;have H:=Zh j;clear h q j G e0 z y HR;go_enter func48,ntmps48;go_wp2_with fail;refine H.mono ?_;rintro e l ⟨rfl,O⟩;have P:=Zh O;clear O H;go_wp2_with fail;go_ret;exact a6 _ (P.alloc P.size _)
theorem Ep{d:D}(hg:SC d){i q:Int}(h:i∈xA d.l q):nA d.l q=true/\qC (RA d.l q)=false:=by
 cases hf:find d.l q with
 |none=>unfold xA at h;rw[hf] at h;cases h
 |some y=>
  refine⟨vK hf,?_⟩;rw[V9 hf];have a:=EI hf;cases hn:qC y.tag with
  |false=>rfl
  |true=>
   have:=(hg.2 y (kG hf).1).aB hn;rw[a,this] at h;cases h
theorem Sk(h:jQ w B g p x vd rs b A n c):jA 49 #[lA g,lA p,aA id,.slice A n c] w (tI w B g p x vd rs id b true):=by
 have q2:=qF;have q3:=AF;have o:=Zh h;by_cases P:DG x.d id b=0
 ·have CL:=Zh (S9 h P);obtain⟨g1,g2,a,a1,a2⟩:=look_ok P;have HG:=Zh g1;have HC:=Zh g2;have l:=Zh a1;have Q:=Zh a2;clear h P g1 g2 a1 a2;go_enter func49,ntmps49;go_wp2_with fail;refine CL.mono ?_;rintro e v ⟨nd,y,z,C,D,E,F,A3,n3,c3,ts,rfl,hf,ok,a3,ow,nw,b1⟩;have HE:=Zh a3;have B1:=Zh b1;have ac:=Zh ok;have ad:=Zh ow;have ae:=Zh nw;obtain rfl:a=nd:=by have:=l.out;rw[hf] at this;exact(Option.some.inj this).symm
  clear a3 b1 ok ow nw CL hf;go_upto_region 4 with fail;have BX:Hid (fA v (v.alloc (.cells (bB a y z C D E F) 53))):=Zh ((Below.refl _ v).alloc Zl _);have J:=Zh (lB.new v a y z C D E F);have GN:=Zh B1.size;generalize v.heap.size=i at J GN|-;generalize v.alloc (.cells (bB a y z C D E F) 53)=w2 at BX J|-;have L:=Zh (B1.trans (BX.mono B1.size));have al:=Zh (ac.below BX Zl);have S:=Zh (ad.below BX Zl);have a4:Hid (∀t∈ts,lC kW w2 (fun k=>w.heap.size<=k) t):=Zh (fun t ht=>(ae t ht).later BX);obtain⟨T,U⟩:=lP HC;obtain⟨o1,_⟩:=UN S;have M:(MB (fB b).1).length=n3:=(by rw[<-HE.out,nC,List.length_map,o1]);have d1:=J.c1;by_cases d:a.par=0\/1<n3
  ·have HR:Hid (pD (x.d,rs.map (·.r)) id b true=(4,(x.d,rs.map (·.r)))):=Zh (by
    rw[FP HG.out HC.out (s:=(x.d,rs.map (·.r))) l.out Q.out,if_pos ⟨rfl,by rw[M];exact d⟩])
   clear T U M o1;by_cases j:a.par=0
   ·rw[j] at d1;clear d j;go_wp2_with fail;go_ret;exact cN (k:=4) o.dc o.lg L HR
   ·have a5:1<n3:=d.resolve_left j;have q1:=int_ne j;have q5:decide ((1:Int)<(n3:Int))=true:=jB;have q6:((1:Int)<(n3:Int))=True:=eq_true dA;clear d j;go_wp2_with fail;go_ret;exact cN (k:=4) o.dc o.lg L HR
  have j:a.par≠0:=fun e=>d (.inl e)
  have a5:¬1<n3:=fun e=>d (.inr e)
  have q1:=int_ne j;have q5:decide ((1:Int)<(n3:Int))=false:=jB;have a6:Hid (¬(true=true/\(a.par=0\/1<(MB (fB b).1).length))):=Zh (fun e=>d (by have:=e.2;rw[M] at this;exact this));have V:=Zh j;have q:=J9 ts A3 n3 c3 rfl (o.dc.below L) (XV S a4) (by rw[HE.out];omega);rw[HE.out,<-dG] at q;clear d j a5 M o1;go_upto_region 6 with fail;by_cases f:x.d.R<x.d.l.length+xB (MB (fB b).1)
  ·have hq:decide (((xB (MB (fB b).1):Nat):Int)<=(x.R:Int)-(x.l.length:Nat))=false:=by
    have h1:x.R<x.l.length+xB (MB (fB b).1):=f;simp;omega
   rw[hq] at q;have CF:=Zh q;have HR:Hid (pD (x.d,rs.map (·.r)) id b true=(6,(x.d,rs.map (·.r)))):=Zh (by
    rw[FP HG.out HC.out (s:=(x.d,rs.map (·.r))) l.out Q.out,if_neg a6.out,if_pos f])
   clear q hq f T U;go_wp2_with fail;refine CF.mono ?_;rintro e u ⟨rfl,b3⟩;have N:=Zh (L.trans (b3.mono L.size));clear b3;go_wp2_with fail;go_ret;exact cN (k:=6) o.dc o.lg N HR
  ·have hq:decide (((xB (MB (fB b).1):Nat):Int)<=(x.R:Int)-(x.l.length:Nat))=true:=by
    have h1:¬x.R<x.l.length+xB (MB (fB b).1):=f;simp;omega
   rw[hq] at q;have CF:=Zh q;have hr:pD (x.d,rs.map (·.r)) id b true=(0,uB (dL (MB (fB b).1)+1) (x.d,rs.map (·.r)) a.par [id] (sI (xA x.d.l a.par) id) (MB (fB b).1)):=by
    rw[FP HG.out HC.out (s:=(x.d,rs.map (·.r))) l.out Q.out,if_neg a6.out,if_neg f,if_neg pA]
   have G:a.id=id:=(kG l).2;have GE:=Zh GN.out;have a7:=kY o.iK.1 l V;have a8:=Tb o.iK.1 (by rw[G];exact l) V;have W:=Ep o.iK a8;have a9:Hid (∀(u:World) (gs:Nat),fA w2 u->kI.Own u w.heap.size (.slice (some (cA gs 0)) 1 1) [id]->jA 86 #[lA g,lA p,aA a.par,.slice (some (cA gs 0)) 1 1,aA (sI (xA x.d.l a.par) a.id),.slice A3 n3 c3] u (ee w i a y z C D E F B g p x vd rs id b true)):=Zh (fun u gs X hi=>by
    rw[G];have hv:=J.below X J.lt;refine Calls.mono (R:=QS w u B g p x vd rs id b true) ?_ (fun e w' hw=>Px hw GE hv);exact U9 o (L.trans (X.mono L.size)) HC HE (S.below X Zl) (fun t ht=>(a4 t ht).later X) a.par _ [id] hi dA true hr a7 W.1 W.2 dA)
   have CB:Hid (∀u,fA w2 u->jA 87 #[lA p,.agg (bB a y z C D E F)] u (fe w2 u (sI (xA x.d.l a.par) a.id))):=Zh (fun u X=>
    Qx X <| Uh a y z C D E F o.iK.1 (by rw[G];exact l) V u ((o.dc.below L).below X))
   obtain⟨bh,aa⟩:=DA (sI (xA x.d.l a.par) a.id);rw[aa] at a9 CB;have ak:=Zh G;clear q hq f T U hr a7 a8 W G aa d1 q1 q5;go_wp2_with fail;refine CF.mono ?_;rintro e u ⟨rfl,b3⟩;have N:=Zh b3;clear b3;go_upto_region 8 with fail;have Y:Hid (∀I,lB I i a y z C D E F->I.cell? (cA i 0)=some (aA a.id)/\I.cell? (cA i 1)=some (aA a.par)/\I.cell? (cA i 2)=some (bA a.tag)/\I.cell? (cA i 3)=some (bA a.txt)/\I.cell? (cA i 4)=some (bA a.key)/\I.cell? (cA i 5)=some (.slice y z C)/\I.cell? (cA i 6)=some (.slice D E F)/\I.cell? (cA i 7)=some (aA a.note)):=Zh (fun I h=>⟨h.c0,h.c1,h.c2,h.c3,h.c4,h.c5,h.c6,h.c7⟩);have N3:=Zh (J.below N J.lt);have SK:=Y u N3;go_region_held3 (fun w'=>w'.cell? (cA i 0)=some (aA a.id)/\w'.cell? (cA i 1)=some (aA a.par)/\w'.cell? (cA i 2)=some (bA a.tag)/\w'.cell? (cA i 3)=some (bA a.txt)/\w'.cell? (cA i 4)=some (bA a.key)/\w'.cell? (cA i 5)=some (.slice y z C)/\w'.cell? (cA i 6)=some (.slice D E F)/\w'.cell? (cA i 7)=some (aA a.note)) (first|go_keep|exact SK|exact af|exact ag) ((first
    |(go_at_call 87;refine(CB _ (by first|exact(N.alloc N.size _).drew|exact N.drew|exact OC N _|exact N)).mono ?_;rintro e w9 ⟨rfl,b9,k9⟩;have O:=Zh b9;have K9:=Zh k9;have af:=Y w9 (J.below b9 J.lt);clear b9 k9)
    |(go_at_call 86;refine(a9 _ _ (by first|exact O.drew|exact OC O _|exact O|exact(O.alloc O.size _).drew|exact O.alloc O.size _) (Kind.OH (K:=kI) (cur:=#[aA id]) rfl (by have:=L.size;have:=N.size;have:=O.size;omega) (by first|exact K9 _ _ (heap_alloc_new _ _)|exact heap_alloc_new _ _) Zl pA rfl rfl)).mono ?_;rintro e ah ⟨m,rfl,hv,hn⟩;have HV:=Zh hv;have ag:=Y ah hn;clear hv hn;obtain⟨ev,ab⟩:=DA (QA m);rw[ab] at HV|-;clear ab)
    |fail))
   all_goals (go_wp2_with fail;go_ret;exact HV)
 ·have H:=Q9 h P;unfold iO at H;have hr:=x9 (s:=(x.d,rs.map (·.r))) (outer:=true) P;have HR:=Zh hr;have e0:=oP P;obtain⟨lc,Z⟩:=DA (DG x.d id b);have a0:=hr;rw[show DG (x.d,rs.map (·.r)).1 id b=lc from Z] at a0;have ai:=Zh a0;rw[Z] at H e0;have aj:Hid (∀w',fA w w'->tI w B g p x vd rs id b true (.returned (.iface 29 (aA (lc:Nat)))) w'):=Zh (fun w' hb=>by rw[<-e0];exact cN o.dc o.lg hb ai);rw[e0] at H;have CL:=Zh H;clear h P H hr e0 a0 Z HR;go_enter func49,ntmps49;go_wp2_with fail;refine CL.mono ?_;rintro e v ⟨rfl,b1⟩;have B1:=Zh b1;clear b1 CL;go_wp2_with fail;go_ret;exact aj _ (B1.alloc B1.size _)
theorem Uk(p:Nat)(id:Int)(A:vA)(n c:Nat)(w:World):jA 84 #[.pointer none,lA p,aA id,.slice A n c] w (iO w 1):=by
 have b:Hid (fA w (w.alloc (.cells oE 53))):=Zh ((Below.refl _ w).alloc Zl _);have d:Hid (lB (w.alloc (.cells oE 53)) w.heap.size LM none 0 0 none 0 0):=Zh (heap_alloc_new w _);go_enter func84,ntmps84;go_upto_region 1 with fail;obtain⟨s,a⟩:=DA w.heap.size;generalize w.alloc (.cells oE 53)=W at b d|-;rw[a] at d|-;have e:=Zh a;obtain⟨g,i,j,l,m,q,r,o,t,f⟩:=XS d;simp only[LM] at g i j l m o;clear a;go_wp2_with fail;refine bodyPost_ret (v:=.tuple #[.agg oE,tA,.iface 29 (aA 1)]) (by simp[results,results84,go_sem,g,i,j,l,m,q,r,o,f]) rfl ⟨rfl,rF b ?_⟩;rw[e.out];exact mA (mA (mA (mA (mA (mA (mA (mA (iA.refl _ _))))))))
end
theorem Ub:fv where
 Ed:=by
  intro p id A n c w;have d:=Zh (Uk p id A n c w);have C:=qF;have t:QA ((1:Nat):Int)= .iface 29 (aA 1):=rfl;unfold iO at d;rw[t] at d;go_enter func48,ntmps48;go_wp2_with fail;refine d.mono ?_;rintro e D ⟨rfl,u⟩;have v:=Zh u;clear u d t;go_wp2_with fail;go_ret;exact⟨rfl,v.alloc v.size _⟩
 inner:=fun w B g p x y z id b A n c f i j k l m o q r s a=>Rk ⟨f,i,j,k,l,m w (iA.refl _ _),o,q,r,a⟩
 outer:=fun w B g p x y z id b A n c f i j k l m o q r s a=>Sk ⟨f,i,j,k,l,m w (iA.refl _ _),o,q,r,a⟩
end P20
end Go.Proofs.YtimfajmknmlajaaGreatDoor
