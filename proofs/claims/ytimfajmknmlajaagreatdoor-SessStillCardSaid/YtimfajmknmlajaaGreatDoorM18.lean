/- A part of the proof. No condition. -/
import Derived.Deep.Cut
import Derived.Deep.DeepCutAuto
import Derived.Test.YtimfajmknmlajaaGreatDoorM1
import Derived.Test.YtimfajmknmlajaaGreatDoorM3
import Derived.Test.YtimfajmknmlajaaGreatDoorM4
import Derived.Test.YtimfajmknmlajaaGreatDoorM5
import Derived.Test.YtimfajmknmlajaaGreatDoorM6
import Derived.Test.YtimfajmknmlajaaGreatDoorM8
import Derived.Test.YtimfajmknmlajaaGreatDoorM9
import Derived.Test.YtimfajmknmlajaaGreatDoorM10
import Derived.Test.YtimfajmknmlajaaGreatDoorM11
import Derived.Test.YtimfajmknmlajaaGreatDoorM14
set_option linter.unusedVariables false
set_option linter.unusedSimpArgs false
set_option maxRecDepth 100000
set_option maxHeartbeats 40000000
namespace Go.Proofs.YtimfajmknmlajaaGreatDoor
open Go.Proofs.Tryz
namespace P8
open Go.RowKit Kd P4 P5 P7
theorem tn(a b c:TD):(a.on b).on c=a.on (b.on c):=by simp[TD.on,List.append_assoc]
theorem oY(i p b:Int)(t:PT):(ID i p b t).length<=3:=by unfold ID;split<;>simp
theorem sj(d:D)(L:List Rc):yB d L=(⟨L.take 0,0,d⟩:TD).on (yB d (L.drop 0)):=by
 show yB d L=⟨[]++(yB d L).done,(yB d L).err,(yB d L).d⟩;cases yB d L;rfl
theorem yn{d dk:D}{L:List Rc}{k:Nat}(hk:k<L.length)(h:yB d L=(⟨L.take k,0,dk⟩:TD).on (yB dk (L.drop k)))(h0:(YA dk L[k]).1=0):yB d L=(⟨L.take (k+1),0,(YA dk L[k]).2⟩:TD).on (yB (YA dk L[k]).2 (L.drop (k+1))):=by
 have e:L.take (k+1)=L.take k++[L[k]]:=(by rw[List.take_add_one,List.getElem?_eq_getElem hk];rfl);rw[h,List.drop_eq_getElem_cons hk,yB,if_pos h0,e];unfold TD.on;rw[List.append_assoc];rfl
theorem yr{d dk:D}{L:List Rc}{k:Nat}(hk:k<L.length)(h:yB d L=(⟨L.take k,0,dk⟩:TD).on (yB dk (L.drop k)))(h0:(YA dk L[k]).1≠0):yB d L=⟨L.take k,(YA dk L[k]).1,(YA dk L[k]).2⟩:=by
 rw[h,List.drop_eq_getElem_cons hk,yB,if_neg h0];unfold TD.on;simp
theorem zr{d dk:D}{L:List Rc}(h:yB d L=(⟨L.take L.length,0,dk⟩:TD).on (yB dk (L.drop L.length))):yB d L=⟨L,0,dk⟩:=by
 rw[h,List.drop_length,yB];unfold TD.on;simp
theorem tj{d:D}{p:Int}{L:List PT}{k:Nat}(hk:k<L.length)(h0:(qB d p 0 L[k]).err=0):jC d p (L.drop k)=(⟨(qB d p 0 L[k]).done,0,(qB d p 0 L[k]).d⟩:TD).on (jC (qB d p 0 L[k]).d p (L.drop (k+1))):=by
 rw[List.drop_eq_getElem_cons hk,jC,if_pos h0];unfold TD.on;rfl
theorem zn{d:D}{p:Int}{L:List PT}{k:Nat}(hk:k<L.length)(h0:(qB d p 0 L[k]).err≠0):jC d p (L.drop k)=qB d p 0 L[k]:=by
 rw[List.drop_eq_getElem_cons hk,jC,if_neg h0]
theorem Ar{w5:World}{o:Obj}{w8:World}{v:Value}(hg:(w5.alloc o).grownBy w8 v.ownBlock):iA (fun i=>v.ownBlock=some i) w5 w8:=(iA.alloc (iA.refl _ _) _).trans (iA.WG (S:=fun i=>v.ownBlock=some i) hg (fun i a _=>a)) (fun _ _ h=>h)
theorem C6:∀(l:List Rc) (d:D),(yB d l).done.length<=l.length
 |[],_=>by simp[yB]
 |r:: l,d=>by
  rw[yB];split
  ·have:=C6 l (YA d r).2;simp;omega
  ·simp
theorem rZ(t:PT):∀(d:D) (p b:Int),(qB d p b t).done.length<=3*countP t:=by
 induction t using PT.ind with
 |h tag txt key attrs kids ih=>
  have c:∀(l:List PT),(∀k∈l,k∈kids)->∀(d:D) (p:Int),(jC d p l).done.length<=3*cB l:=by
   intro l
   induction l with
   |nil=>intro _ d p;simp[jC]
   |cons a l ihl=>
    intro e d p;have f:=ih a (e a FA) d p 0;have g:=ihl (fun k i=>e k (by simp[i])) (qB d p 0 a).d p;rw[jC,cB];split
    ·unfold TD.on;simp;omega
    ·omega
  intro d p b;have f:=C6 (ID (d.n+1) p b (.mk tag txt key attrs kids)) d;have g:=oY (d.n+1) p b (.mk tag txt key attrs kids);have j:=c kids (fun _ h=>h) (yB d (ID (d.n+1) p b (.mk tag txt key attrs kids))).d (d.n+1);rw[qB,countP];split
  ·unfold TD.on;simp;omega
  ·omega
end P8
namespace P14
open Go.RowKit Kd P4 P5 P11 P12 P13
attribute [local go_sem ↓] Go.wp_at_zero Go.wp_at_succ
def oK(kind:Int)(txt:qA):WV:=.mk kind ⟨#[]⟩ ⟨#[]⟩ txt ⟨none,0,0⟩ [] ⟨none,0,0⟩ []
theorem vN(w:World)(k:Int)(t:qA)(Q:Nat->Prop):lC kW w Q (oK k t):=lC.mk (sk:=⟨none,0,0⟩) (ZB.fK w) (Kind.Own.nil kW w 0) (fun b a=>by cases a) (fun k c=>by cases c)
theorem ON(k:Int)(t:qA):er (oK k t)= .mk k z0 z0 t [] []:=by rw[oK,er,yA];rfl
theorem Yw{w:World}{g b o:Nat}{u u0 u1 u2 u3 u4 u5:Value}(h:b≠g)(hc:w.cell? (cA b o)=some u):((((((w.setCell (cA g 0) u0).setCell (cA g 1) u1).setCell (cA g 2) u2).setCell (cA g 3) u3).setCell (cA g 4) u4).setCell (cA g 5) u5).cell? (cA b o)=some u:=by
 refine(World.cell?_of_block ?_).trans hc;have k:∀(w:World) (i:Nat) (u:Value),(w.setCell (cA g i) u).heap[b]? = w.heap[b]?:=fun w i u=>Below.heap_setCell w _ u b h
 rw[k,k,k,k,k,k]
theorem Fk(w:World)(a:Addr):w.drew.cell? a=w.cell? a:=rfl
theorem Uc{w:World}{g b o:Nat}{u u0 u1 u2 u3 u4 u5:Value}(h:b≠g)(hc:w.cell? (cA b o)=some u):((((((w.setCell (cA g 0) u0).setCell (cA g 1) u1).setCell (cA g 2) u2).setCell (cA g 3) u3).setCell (cA g 4) u4).setCell (cA g 5) u5).drew.cell? (cA b o)=some u:=(Fk _ _).trans (Yw h hc)
theorem gT(op kind:Int)(a b2 txt:qA)(rest:List In)(A:vA)(n c C:Nat)(w:World)(hk:(op=4/\kind=2/\txt=a)\/(op=8/\kind=3/\txt=⟨#[]⟩)\/(op=7/\kind=4/\txt=⟨#[]⟩))(h:Rs w C A n c (⟨op,a,b2⟩:: rest))(hC:C<=w.heap.size):
 jA 227 #[.slice A n c] w (mK w C (.mk kind z0 z0 txt [] []) rest):=by
 obtain⟨b,o,rfl,M,g,i,I,N,P,B,D⟩:=h.cons;have l:=Zh B;have m:=Zh D;have K:=h.cap;have J:=h.cm;have j:b<w.heap.size:=Nat.lt_of_lt_of_le M hC;have E:b≠w.heap.size:=dA;have Q:(1:Int)<=(n:Int):=dA;have R:(n:Int)<=(c:Int):=dA;have L:c<=9223372036854775807:=(by unfold maxLen at J;omega);clear h B D N I;simp only at g i;rcases hk with⟨rfl,rfl,rfl⟩|⟨rfl,rfl,rfl⟩|⟨rfl,rfl,rfl⟩
 ·by_cases e:c=1
  ·have y:=Zh (l e);subst e;obtain rfl:n=1:=dA
   clear l m;go_enter func227,ntmps227;go_upto_region 1 with fail;have d:Hid (WB (w.alloc (.cells #[aA 0,oA,oA,oA,tA,tA] 268)) w.heap.size UD):=Zh (WB.new w UD);have f:Hid (fA w (w.alloc (.cells #[aA 0,oA,oA,oA,tA,tA] 268))):=Zh (Zb _ _);generalize w.alloc (.cells #[aA 0,oA,oA,oA,tA,tA] 268)=x at d f|-;have F:=(f.cell (p:=(cA b o)) j).trans g;have z:=(f.cell (p:=⟨b,o+1,none⟩) j).trans i;have z0:=d.c0;have q:=d.c1;have r:=d.c2;have s:=d.c3;have t:=d.c4;have u:=d.c5;simp only[WV.kind,WV.tag,WV.key,WV.txt,WV.sa,WV.sk,UD] at z0 q r s t u;have G:=d.fr;have k:w.heap.size<x.heap.size:=d.lt;clear g i;go_upto_region 3 with fail;have O:((((((x.setCell ⟨w.heap.size,0,none⟩ (aA 2)).setCell ⟨w.heap.size,1,none⟩ (oA)).setCell ⟨w.heap.size,2,none⟩ (oA)).setCell ⟨w.heap.size,3,none⟩ (bA txt)).setCell ⟨w.heap.size,4,none⟩ (tA)).setCell ⟨w.heap.size,5,none⟩ (tA)).drew.cell? ⟨b,o+1,none⟩=some (bA txt):=Uc E z;go_region_held3 (fun w'=>w'.cell? ⟨b,o+1,none⟩=some (bA txt)) (go_keep) (fail)
   all_goals (go_wp2_with fail)
   all_goals (refine bodyPost_ret (v:=.tuple #[.agg #[aA 2,oA,oA,bA txt,tA,tA],.slice (some (cA b o)) (0) (0)]) (by simp[results,results227,go_sem,z0,q,r,s,t,u,k]) rfl ⟨oK 2 txt,_,_,_,rfl,ON _ _,vN _ _ _ _,y,?_⟩)
   all_goals exact rF f (iA.drew (mA (mA (mA (mA (mA (mA (iA.refl _ _))))))))
  ·have y:=Zh (m e);have H:¬c-1=0:=dA;clear l m;go_enter func227,ntmps227;go_upto_region 1 with fail;have d:Hid (WB (w.alloc (.cells #[aA 0,oA,oA,oA,tA,tA] 268)) w.heap.size UD):=Zh (WB.new w UD);have f:Hid (fA w (w.alloc (.cells #[aA 0,oA,oA,oA,tA,tA] 268))):=Zh (Zb _ _);generalize w.alloc (.cells #[aA 0,oA,oA,oA,tA,tA] 268)=x at d f|-;have F:=(f.cell (p:=(cA b o)) j).trans g;have z:=(f.cell (p:=⟨b,o+1,none⟩) j).trans i;have z0:=d.c0;have q:=d.c1;have r:=d.c2;have s:=d.c3;have t:=d.c4;have u:=d.c5;simp only[WV.kind,WV.tag,WV.key,WV.txt,WV.sa,WV.sk,UD] at z0 q r s t u;have G:=d.fr;have k:w.heap.size<x.heap.size:=d.lt;clear g i;go_upto_region 3 with fail;have O:((((((x.setCell ⟨w.heap.size,0,none⟩ (aA 2)).setCell ⟨w.heap.size,1,none⟩ (oA)).setCell ⟨w.heap.size,2,none⟩ (oA)).setCell ⟨w.heap.size,3,none⟩ (bA txt)).setCell ⟨w.heap.size,4,none⟩ (tA)).setCell ⟨w.heap.size,5,none⟩ (tA)).drew.cell? ⟨b,o+1,none⟩=some (bA txt):=Uc E z;go_region_held3 (fun w'=>w'.cell? ⟨b,o+1,none⟩=some (bA txt)) (go_keep) (fail)
   all_goals (go_wp2_with fail)
   all_goals (refine bodyPost_ret (v:=.tuple #[.agg #[aA 2,oA,oA,bA txt,tA,tA],.slice (some ⟨b,o+3,none⟩) (n-1) (c-1)]) (by simp[results,results227,go_sem,z0,q,r,s,t,u,k]) rfl ⟨oK 2 txt,_,_,_,rfl,ON _ _,vN _ _ _ _,y,?_⟩)
   all_goals exact rF f (iA.drew (mA (mA (mA (mA (mA (mA (iA.refl _ _))))))))
 ·by_cases e:c=1
  ·have y:=Zh (l e);subst e;obtain rfl:n=1:=dA
   clear l m;go_enter func227,ntmps227;go_upto_region 1 with fail;have d:Hid (WB (w.alloc (.cells #[aA 0,oA,oA,oA,tA,tA] 268)) w.heap.size UD):=Zh (WB.new w UD);have f:Hid (fA w (w.alloc (.cells #[aA 0,oA,oA,oA,tA,tA] 268))):=Zh (Zb _ _);generalize w.alloc (.cells #[aA 0,oA,oA,oA,tA,tA] 268)=x at d f|-;have F:=(f.cell (p:=(cA b o)) j).trans g;have z:=(f.cell (p:=⟨b,o+1,none⟩) j).trans i;have z0:=d.c0;have q:=d.c1;have r:=d.c2;have s:=d.c3;have t:=d.c4;have u:=d.c5;simp only[WV.kind,WV.tag,WV.key,WV.txt,WV.sa,WV.sk,UD] at z0 q r s t u;have G:=d.fr;have k:w.heap.size<x.heap.size:=d.lt;clear g i;go_upto_region 5 with fail;go_region_held3 (fun _=>True) (trivial) (fail)
   all_goals (go_wp2_with fail)
   all_goals (refine bodyPost_ret (v:=.tuple #[.agg #[aA 3,oA,oA,oA,tA,tA],.slice (some (cA b o)) (0) (0)]) (by simp[results,results227,go_sem,z0,q,r,s,t,u,k]) rfl ⟨oK 3 ⟨#[]⟩,_,_,_,rfl,ON _ _,vN _ _ _ _,y,?_⟩)
   all_goals exact rF f (iA.drew (mA (mA (mA (mA (mA (mA (iA.refl _ _))))))))
  ·have y:=Zh (m e);have H:¬c-1=0:=dA;clear l m;go_enter func227,ntmps227;go_upto_region 1 with fail;have d:Hid (WB (w.alloc (.cells #[aA 0,oA,oA,oA,tA,tA] 268)) w.heap.size UD):=Zh (WB.new w UD);have f:Hid (fA w (w.alloc (.cells #[aA 0,oA,oA,oA,tA,tA] 268))):=Zh (Zb _ _);generalize w.alloc (.cells #[aA 0,oA,oA,oA,tA,tA] 268)=x at d f|-;have F:=(f.cell (p:=(cA b o)) j).trans g;have z:=(f.cell (p:=⟨b,o+1,none⟩) j).trans i;have z0:=d.c0;have q:=d.c1;have r:=d.c2;have s:=d.c3;have t:=d.c4;have u:=d.c5;simp only[WV.kind,WV.tag,WV.key,WV.txt,WV.sa,WV.sk,UD] at z0 q r s t u;have G:=d.fr;have k:w.heap.size<x.heap.size:=d.lt;clear g i;go_upto_region 5 with fail;go_region_held3 (fun _=>True) (trivial) (fail)
   all_goals (go_wp2_with fail)
   all_goals (refine bodyPost_ret (v:=.tuple #[.agg #[aA 3,oA,oA,oA,tA,tA],.slice (some ⟨b,o+3,none⟩) (n-1) (c-1)]) (by simp[results,results227,go_sem,z0,q,r,s,t,u,k]) rfl ⟨oK 3 ⟨#[]⟩,_,_,_,rfl,ON _ _,vN _ _ _ _,y,?_⟩)
   all_goals exact rF f (iA.drew (mA (mA (mA (mA (mA (mA (iA.refl _ _))))))))
 ·by_cases e:c=1
  ·have y:=Zh (l e);subst e;obtain rfl:n=1:=dA
   clear l m;go_enter func227,ntmps227;go_upto_region 1 with fail;have d:Hid (WB (w.alloc (.cells #[aA 0,oA,oA,oA,tA,tA] 268)) w.heap.size UD):=Zh (WB.new w UD);have f:Hid (fA w (w.alloc (.cells #[aA 0,oA,oA,oA,tA,tA] 268))):=Zh (Zb _ _);generalize w.alloc (.cells #[aA 0,oA,oA,oA,tA,tA] 268)=x at d f|-;have F:=(f.cell (p:=(cA b o)) j).trans g;have z:=(f.cell (p:=⟨b,o+1,none⟩) j).trans i;have z0:=d.c0;have q:=d.c1;have r:=d.c2;have s:=d.c3;have t:=d.c4;have u:=d.c5;simp only[WV.kind,WV.tag,WV.key,WV.txt,WV.sa,WV.sk,UD] at z0 q r s t u;have G:=d.fr;have k:w.heap.size<x.heap.size:=d.lt;clear g i;go_upto_region 7 with fail;go_region_held3 (fun _=>True) (trivial) (fail)
   all_goals (go_wp2_with fail)
   all_goals (refine bodyPost_ret (v:=.tuple #[.agg #[aA 4,oA,oA,oA,tA,tA],.slice (some (cA b o)) (0) (0)]) (by simp[results,results227,go_sem,z0,q,r,s,t,u,k]) rfl ⟨oK 4 ⟨#[]⟩,_,_,_,rfl,ON _ _,vN _ _ _ _,y,?_⟩)
   all_goals exact rF f (iA.drew (mA (mA (mA (mA (mA (mA (iA.refl _ _))))))))
  ·have y:=Zh (m e);have H:¬c-1=0:=dA;clear l m;go_enter func227,ntmps227;go_upto_region 1 with fail;have d:Hid (WB (w.alloc (.cells #[aA 0,oA,oA,oA,tA,tA] 268)) w.heap.size UD):=Zh (WB.new w UD);have f:Hid (fA w (w.alloc (.cells #[aA 0,oA,oA,oA,tA,tA] 268))):=Zh (Zb _ _);generalize w.alloc (.cells #[aA 0,oA,oA,oA,tA,tA] 268)=x at d f|-;have F:=(f.cell (p:=(cA b o)) j).trans g;have z:=(f.cell (p:=⟨b,o+1,none⟩) j).trans i;have z0:=d.c0;have q:=d.c1;have r:=d.c2;have s:=d.c3;have t:=d.c4;have u:=d.c5;simp only[WV.kind,WV.tag,WV.key,WV.txt,WV.sa,WV.sk,UD] at z0 q r s t u;have G:=d.fr;have k:w.heap.size<x.heap.size:=d.lt;clear g i;go_upto_region 7 with fail;go_region_held3 (fun _=>True) (trivial) (fail)
   all_goals (go_wp2_with fail)
   all_goals (refine bodyPost_ret (v:=.tuple #[.agg #[aA 4,oA,oA,oA,tA,tA],.slice (some ⟨b,o+3,none⟩) (n-1) (c-1)]) (by simp[results,results227,go_sem,z0,q,r,s,t,u,k]) rfl ⟨oK 4 ⟨#[]⟩,_,_,_,rfl,ON _ _,vN _ _ _ _,y,?_⟩)
   all_goals exact rF f (iA.drew (mA (mA (mA (mA (mA (mA (iA.refl _ _))))))))
end P14
namespace P8
open Go.RowKit Kd P4 P5 P7
variable{w w1 w2:World}{B g p:Nat}{x x1 x2:Dx}{vd vd1 vd2:Value}{rs rs1 rs2:List RR}
theorem wB.trans(h:wB w B g p x vd x1 vd1 rs1 w1)(k:wB w1 B g p x1 vd1 x2 vd2 rs2 w2):wB w B g p x vd x2 vd2 rs2 w2:=by
 have c:=h.but.size;refine⟨k.dc,k.lg,h.but.trans k.but (fun i b a=>?_),fun i b=>?_,fun i b=>?_⟩
 ·rcases a with a|a|a
  ·rcases h.ft i a with e|e
   ·exact .inl e
   ·omega
  ·exact .inr (.inl a)
  ·rcases h.lf i a with e|e
   ·exact .inr (.inr e)
   ·omega
 ·rcases k.ft i b with e|e
  ·exact h.ft i e
  ·exact .inr dA
 ·rcases k.lf i b with e|e
  ·exact h.lf i e
  ·exact .inr dA
theorem wB.same(h:Dc w B p x)(l:Lg w B g p vd rs)(hb:fA w w1):wB w B g p x vd x vd rs w1:=⟨h.below hb,l.below hb,iA.oB hb _,fun _ a=> .inl a,fun _ a=> .inl a⟩
theorem wB.below(h:wB w B g p x vd x1 vd1 rs1 w1)(hb:fA w1 w2):wB w B g p x vd x1 vd1 rs1 w2:=wB.trans h (wB.same h.dc h.lg hb)
def Yx:Prop:=∀(w:World) (B p:Nat) (x:Dx) (i:Int),WF x.d->x.n<=100000->Dc w B p x->jA 88 #[lA p,aA i] w fun e w'=>
 (nA x.l i=true/\∃tv:TV,e= .returned (.tuple #[.agg #[bA tv.tag,bA tv.txt,bA tv.key,.slice tv.sa.A tv.sa.n tv.sa.c,.slice tv.sk.A tv.sk.n tv.sk.c],.bool true])/\er tv=mD x.l (x.l.length+1) i/\EC w' w'.heap.size tv/\fA w w')\/
 (nA x.l i=false/\e= .returned (.tuple #[.agg #[oA,oA,oA,tA,tA],.bool false])/\fA w w')
theorem xb{w w':World}{B g p s:Nat}{x x':Dx}{vd vd':Value}{rs rs':List RR}{t:TV}(h:Dc w B p x)(l:Lg w B g p vd rs)(k:wB w B g p x vd x' vd' rs' w')(ht:TB w s t):TB w' s t:=(k.but.block s ht.lt (fun e=>by
 rcases e with e|e
 ·exact h.other ht pA pA pA pA pA e
 ·obtain⟨c,d,a,b⟩:=l.ty e;rcases b with rfl|rfl<;>exact WA a ht pA rfl)).trans ht
def Ku(w:World)(B g p:Nat)(x:Dx)(vd:Value)(rs:List RR)(d1:D)(head:List Rc)(L:List PT)(n2:Nat)(s42:Value)(wr:World):Prop:=
 ∃(k:Nat) (xk:Dx) (vk:Value) (rk:List RR) (dn:List Rc),k<=n2/\s42 = aA k/\xk.n<=x.n+1+cB (L.take k)/\rk.length<=rs.length+3+3*cB (L.take k)/\Hid (wB w B g p x vd xk vk rk wr)/\Hid (WF xk.d)/\Hid (rk.map (·.r)=rs.map (·.r)++(head++dn))/\
  Hid (jC d1 (x.n+1) L=(⟨dn,0,xk.d⟩:TD).on (jC xk.d (x.n+1) (L.drop k)))
def Ic(w:World)(B g p:Nat)(x:Dx)(vd:Value)(rs:List RR)(r:TD)(e:Ending)(w':World):Prop:=
 ∃x' vd' rs',e= .returned (.tuple #[aA (if r.err=0 then x.n+1 else 0),QA r.err])/\wB w B g p x vd x' vd' rs' w'/\x'.d=r.d/\rs'.map (·.r)=rs.map (·.r)++r.done
def vw(w:World)(B g p:Nat)(x:Dx)(vd:Value)(rs:List RR)(par ZA:Int)(t:PT)(e:Ending)(w':World):Prop:=
 (iC t=false/\e= .returned (.tuple #[aA 0,.iface 29 (aA 1)])/\fA w w')\/
 (iC t=true/\∃x' vd' rs',e= .returned (.tuple #[aA (ke x.d par ZA t),QA (qB x.d par ZA t).err])/\wB w B g p x vd x' vd' rs' w'/\x'.d=(qB x.d par ZA t).d/\rs'.map (·.r)=rs.map (·.r)++(qB x.d par ZA t).done)
end P8
namespace P21
open P5 P6 P8 P9 P10 P11 P12 P13 P14 P16 P19 P20
def YE:List PT->Sg->Sg
 |[],s=>s
 |t:: l,s=>YE l ((qB s.1 1 0 t).d,s.2++(qB s.1 1 0 t).done)
def fF(s:Sg)(x:uA):Nat×Sg:=
 if(JD x).2≠0 then((JD x).2,s)
 else if(s.1.R:Int)-s.1.l.length+((below s.1.l 1).length-1)<cB (JD x).1 then(6,s)
 else(0,YE (JD x).1 (cC (xA s.1.l 1) s))
structure wI where
 kind:Int
 id:Int
 n:Int
 txt:qA
 bytes:uA
 places:List Int
structure kL where
 code:Int
 txt:qA
 id:Int
 s:Sg
def NC(d:D)(x:wI):kL:=
 if x.kind=1 then⟨((fF (d,[]) x.txt.data.toList).1:Int),z0,0,(fF (d,[]) x.txt.data.toList).2⟩
 else if x.kind=2\/x.kind=3 then⟨((pD (d,[]) x.id x.bytes (decide (x.kind=3))).1:Int),z0,0,(pD (d,[]) x.id x.bytes (decide (x.kind=3))).2⟩
 else if x.kind=4 then⟨(gE d x.id).1,z0,0,((gE d x.id).2,[])⟩
 else if x.kind=5 then⟨(JE d x.id x.n).1,z0,0,((JE d x.id x.n).2,[])⟩
 else if x.kind=6 then(if nA d.l x.id=true then⟨0,P10.bs (wC (mD d.l (d.l.length+1) x.id)),0,(d,[])⟩ else⟨2,z0,0,(d,[])⟩)
 else if x.kind=7 then(match ME d.l 1 x.places with
  |some i=>⟨0,z0,i,(d,[])⟩
  |none=>⟨2,z0,0,(d,[])⟩)
 else⟨1,z0,0,(d,[])⟩
theorem NT:∀(l:List PT) {s:Sg},WF s.1->WF (YE l s).1/\(YE l s).1.n<=s.1.n+cB l/\(YE l s).2.length<=s.2.length+3*cB l
 |[],s,h=>⟨h,by show s.1.n<=_;simp[cB],by show s.2.length<=_;simp[cB]⟩
 |t:: l,s,h=>by
  obtain⟨k1,_,_,k2⟩:=nY t s.1 1 0;have k3:=rZ t s.1 1 0;obtain⟨a,b,c⟩:=NT l (s:=((qB s.1 1 0 t).d,s.2++(qB s.1 1 0 t).done)) (k1 h);refine⟨a,?_,?_⟩
  ·show(YE l _).1.n<=_;rw[cB];have:((qB s.1 1 0 t).d,s.2++(qB s.1 1 0 t).done).1.n=(qB s.1 1 0 t).d.n:=rfl;omega
  ·show(YE l _).2.length<=_;rw[cB];simp only[List.length_append] at c;omega
theorem tN:∀(l:List Int) {s:Sg},WF s.1->WF (cC l s).1
 |[],_,h=>h
 |i:: l,s,h=>tN l (s:=LA s (ZC i)) (qE h _)
theorem Ya{s:Sg}(hw:WF s.1)(x:uA):WF (fF s x).2.1/\(fF s x).2.1.n<=s.1.n+cB (JD x).1/\(fF s x).2.2.length<=s.2.length+200+3*cB (JD x).1:=by
 unfold fF;split
 ·exact⟨hw,by show s.1.n<=_;omega,by show s.2.length<=_;omega⟩
 split
 ·exact⟨hw,by show s.1.n<=_;omega,by show s.2.length<=_;omega⟩
 ·have d:=tN (xA s.1.l 1) hw;have e:=UM (xA s.1.l 1) s;have f:=LJ hw 1;obtain⟨a,b,c⟩:=NT (JD x).1 d;exact⟨a,by show(YE _ _).1.n<=_;omega,by show(YE _ _).2.length<=_;omega⟩
theorem iw{d:D}(hw:WF d)(x:wI):WF (NC d x).s.1:=by
 unfold NC;split
 ·exact(Ya (s:=(d,[])) hw _).1
 split
 ·exact(Bc (s:=(d,[])) hw _ _ _).1
 split
 ·exact T0 hw x.id
 split
 ·exact ra hw x.id x.n
 split
 ·split<;>exact hw
 split
 ·split<;>exact hw
 ·exact hw
end P21
namespace P14
open Go.RowKit Kd P4 P5 P11 P12 P13
attribute [local go_sem ↓] Go.wp_at_zero Go.wp_at_succ
theorem e9(op:Int)(tag key:qA)(r rest:List In)(t:PW)(A:vA)(n c C:Nat)(w:World)(hop:op=1\/op=3)(h:Rs w C A n c (⟨op,tag,key⟩:: r))(hC:C<=w.heap.size)
 (CE:∀wz:World,fA w wz->jA 255 #[.slice A n c] wz (mK wz C t rest)):jA 227 #[.slice A n c] w (mK w C t rest):=by
 obtain⟨b,o,rfl,x,f,_,_,N,Q,_,_⟩:=h.cons;have i:=Zh CE;have l:b<w.heap.size:=Nat.lt_of_lt_of_le x hC;have R:(op==4)=false:=(by rcases hop with rfl|rfl<;>rfl);have S:(op==8)=false:=(by rcases hop with rfl|rfl<;>rfl);have T:(op==7)=false:=(by rcases hop with rfl|rfl<;>rfl);simp only at f;clear h N CE hop;go_enter func227,ntmps227;go_upto_region 1 with fail;have j:Hid (WB (w.alloc (.cells #[aA 0,oA,oA,oA,tA,tA] 268)) w.heap.size UD):=Zh (WB.new w UD);have g:Hid (fA w (w.alloc (.cells #[aA 0,oA,oA,oA,tA,tA] 268))):=Zh (Zb _ _);generalize w.alloc (.cells #[aA 0,oA,oA,oA,tA,tA] 268)=y at j g|-;have O:=(g.cell (p:=(cA b o)) l).trans f;have CE:=Zh (i y g);have m:w.heap.size<y.heap.size:=j.lt;clear f i;go_wp2_with fail;refine CE.mono ?_;rintro e z ⟨a,B,D,E,rfl,k,GF,F,q⟩;have d:=Zh (j.below q j.lt);have G:=Zh (g.trans (q.mono g.size));have P:=Zh (F.back g hC);have H:Hid (lC kW z (fun b=>w.heap.size<b) a):=Zh (GF.mono (fun b _ x=>by omega));have s:=Zh k;have z0:=d.c0;have I:=d.c1;have J:=d.c2;have K:=d.c3;have L:=d.c4;have M:=d.c5;simp only[WV.kind,WV.tag,WV.key,WV.txt,WV.sa,WV.sk,UD] at z0 I J K L M;have U:=d.fr;have u:w.heap.size<z.heap.size:=d.lt;clear k GF F q O CE j m;go_wp2_with fail;refine bodyPost_ret (v:=.tuple #[.agg #[aA a.kind,bA a.tag,bA a.key,bA a.txt,.slice a.sa.A a.sa.n a.sa.c,.slice a.sk.A a.sk.n a.sk.c],.slice B D E]) (by simp[results,results227,go_sem,z0,I,J,K,L,M,u]) rfl ⟨a,B,D,E,rfl,s,?_,P,?_⟩
 ·exact(pJ d H G (mA (mA (mA (mA (mA (mA (iA.refl _ _)))))))).1
 ·exact(pJ d H G (mA (mA (mA (mA (mA (mA (iA.refl _ _)))))))).2
theorem Ob(t:qA):PD (.mk 2 z0 z0 t [] [])=[⟨4,t,z0⟩]:=by simp[PD]
theorem Pb:PD (.mk 3 z0 z0 z0 [] [])=[⟨8,z0,z0⟩]:=by simp[PD]
theorem Qb:PD (.mk 4 z0 z0 z0 [] [])=[⟨7,z0,z0⟩]:=by simp[PD]
def Ht(t:PW):Prop:=∀(rest:List In) (A:vA) (n c C:Nat) (w:World),sJ rest->Rs w C A n c (PD t++rest)->C<=w.heap.size->jA 227 #[.slice A n c] w (mK w C t rest)
theorem It{t:PW}(hwf:tC t)(IH:fL t.kids):Ht t:=by
 intro a A n c C w f h b;cases hwf with
 |el hm ha hk=>
  rw[TM (PL hm)] at h;simp only[List.cons_append,List.append_assoc,List.nil_append] at h;exact e9 1 _ _ _ a _ A n c C w (.inl rfl) h b (fun e d=>eg _ _ _ _ a A n c C e IH hk (h.below d b) (Nat.le_trans b d.size))
 |vo hm ha=>
  rw[yL (wK hm)] at h;simp only[List.cons_append] at h;exact e9 3 _ _ _ a _ A n c C w (.inr rfl) h b (fun e d=>ig _ _ _ a A n c C e f (h.below d b) (Nat.le_trans b d.size))
 |tx hm=>
  rw[Ob] at h;exact gT 4 2 _ _ _ a A n c C w (.inl ⟨rfl,rfl,rfl⟩) h b
 |nd=>
  rw[Pb] at h;exact gT 8 3 _ _ _ a A n c C w (.inr (.inl ⟨rfl,rfl,rfl⟩)) h b
 |al=>
  rw[Qb] at h;exact gT 7 4 _ _ _ a A n c C w (.inr (.inr ⟨rfl,rfl,rfl⟩)) h b
theorem vp{t:PW}(h:tC t):∃x r,PD t=x:: r/\x.op≠2:=by
 cases h with
 |el hm=>exact⟨_,_,TM (PL hm),show(1:Int)≠2 by decide⟩
 |vo hm=>exact⟨_,_,yL (wK hm),show(3:Int)≠2 by decide⟩
 |tx=>exact⟨_,_,Ob _,show(4:Int)≠2 by decide⟩
 |nd=>exact⟨_,_,Pb,show(8:Int)≠2 by decide⟩
 |al=>exact⟨_,_,Qb,show(7:Int)≠2 by decide⟩
theorem Stop.head{l:List In}(h:Stop l):sJ l:=fun x hx=>by rw[h x hx];rfl
def ue(w:World)(C:Nat)(ps:List PW)(rest:List In)(s0 s4:Value)(wr:World):Prop:=∃(dn td:List PW) (A:vA) (n c:Nat) (A':vA) (n' c':Nat) (us:List WV),s0= .slice A n c/\s4= .slice A' n' c'/\Hid (dn++td=ps)/\Hid (yA us=dn)/\Hid (Rs w C A n c (sD td++rest))/\Hid (kW.Own wr w.heap.size (.slice A' n' c') us)/\Hid (∀t∈us,lC kW wr (fun b=>w.heap.size<=b/\(Value.slice A' n' c').ownBlock≠some b) t)/\Hid (us.length+n<=1000)/\Hid (fA w wr)
theorem WZ(ps:List PW)(IH:∀t∈ps,fL t.kids):fL ps:=by
 intro d A n c C w O P h hC;have ST:Hid (ue w C ps d (.slice A n c) (tA) w):=Zh ⟨[],ps,A,n,c,none,0,0,[],rfl,rfl,Zh rfl,Zh rfl,Zh h,Zh (Kind.Own.nil kW w _),Zh (fun t ht=>by cases ht),Zh (by have:=h.n1;simp;omega),Zh Ze⟩;have HS:=Zh P;have R:=Zh O;have HI:=Zh IH;clear h P O IH;go_enter func200,ntmps200;go_wp2_with fail;go_loopw [0,4] (fun s0 s4 wr=>ue w C ps d s0 s4 wr) (fun s0 _ _=>match s0 with| .slice _ n _=>n|_=>0)
 case atStart=>exact ST
 case round=>
  obtain⟨dn,q,A,n,c,J,L,M,G,rfl,rfl,N,HU,S,T,s,HN,H⟩:=hrel;clear ST;have U:w.heap.size<=wr.heap.size:=H.size;have V:C<=wr.heap.size:=Nat.le_trans hC U;have a9:=S.n1;cases q with
  |nil=>
   have HE:Hid (dn=ps):=Zh (by have:=N.out;simpa using this);have u:Hid (Rs w C A n c d):=Zh S.out;clear S N;cases d with
   |nil=>
    obtain rfl:n=0:=by have:=u.len;simpa using this.symm
    go_wp2_with fail;go_ret2;exact⟨J,L,M,G,A,0,c,rfl,by rw[HU.out,HE.out],T,s,u,H⟩
   |cons y r=>
    obtain⟨b,o,rfl,hb,g0,_,_,hl,h0,_,_⟩:=(u.below H hC).cons;have hy:y.op=2:=HS y rfl;rw[hy] at g0;clear hl hy;go_wp2_with fail;go_ret2;exact⟨J,L,M,G,_,n,c,rfl,by rw[HU.out,HE.out],T,s,u,H⟩
  |cons t q=>
   have p:t∈ps:=(by rw[<-N.out];simp);have z:=R t p;have a6:Hid ((dn++[t])++q=ps):=Zh (by rw[<-N.out];simp);have hT:sJ (sD q++d):=ZX (fun k hk=>R k (by rw[<-N.out];simp[hk])) HS.head;have W:Rs wr C A n c (PD t++(sD q++d)):=(by have:=S.below H hC;rw[sD,List.append_assoc] at this;exact this);have CG:Hid (jA 227 #[.slice A n c] wr (mK wr C t (sD q++d))):=Zh (It z (HI t p) (sD q++d) A n c C wr hT W V);have X:Hid ((sD q++d).length<n):=Zh (by
    have h1:=W.len;have h2:=Bi z;rw[List.length_append] at h1;omega)
   obtain⟨x,r,hx,I⟩:=vp z;rw[hx] at W;obtain⟨b,o,rfl,hb,g0,_,_,hl,h0,_,_⟩:=W.cons;have q1:(x.op != 2)=true:=(by simp[I]);have q2:(x.op==2)=false:=(by simp[I]);have i0:(0:Int)<(n:Int):=dA;have aa:G.length+n<=1000:=HN;clear W hx I hl hT z p N HN S;generalize x.op=xo at g0 q1 q2;go_wp2_with fail;refine CG.mono ?_;rintro e j ⟨a,A2,n2,c2,rfl,Y,D,r5,b5⟩;have b6:fA wr (j.alloc (.cells #[aA a.kind,bA a.tag,bA a.key,bA a.txt,.slice a.sa.A a.sa.n a.sa.c,.slice a.sk.A a.sk.n a.sk.c] 268)):=b5.alloc b5.size _;have bb:fA j (j.alloc (.cells #[aA a.kind,bA a.tag,bA a.key,bA a.txt,.slice a.sa.A a.sa.n a.sa.c,.slice a.sk.A a.sk.n a.sk.c] 268)):=Zb _ _;have E:Hid (WB (j.alloc (.cells #[aA a.kind,bA a.tag,bA a.key,bA a.txt,.slice a.sa.A a.sa.n a.sa.c,.slice a.sk.A a.sk.n a.sk.c] 268)) j.heap.size a):=Zh (WB.new j a);have T6:Hid (lC kW (j.alloc (.cells #[aA a.kind,bA a.tag,bA a.key,bA a.txt,.slice a.sa.A a.sa.n a.sa.c,.slice a.sk.A a.sk.n a.sk.c] 268)) (fun b=>w.heap.size<=b/\(Value.slice J L M).ownBlock≠some b) a):=Zh ((D.later bb).mono fun b _ hb=>⟨by omega,fun e=>by have:=(T.lt e).2;omega⟩);have a7:=Zh Y;have B6:=Zh (H.trans (b6.mono U));have O6:Hid (kW.Own (j.alloc (.cells #[aA a.kind,bA a.tag,bA a.key,bA a.txt,.slice a.sa.A a.sa.n a.sa.c,.slice a.sk.A a.sk.n a.sk.c] 268)) w.heap.size (.slice J L M) G):=Zh (T.below b6 Zl);have N6:Hid (∀t∈G,lC kW (j.alloc (.cells #[aA a.kind,bA a.tag,bA a.key,bA a.txt,.slice a.sa.A a.sa.n a.sa.c,.slice a.sk.A a.sk.n a.sk.c] 268)) (fun b=>w.heap.size<=b/\(Value.slice J L M).ownBlock≠some b) t):=Zh (fun t ht=>(s t ht).later b6);have R5:=Zh (r5.back H hC);have Z:Hid (n2<n):=Zh (by have:=R5.len;have:=X.out;omega);clear Y D r5 b5 b6 bb g0 q1 q2 CG T s X;go_upto_region 4 with fail;generalize j.alloc (.cells #[aA a.kind,bA a.tag,bA a.key,bA a.txt,.slice a.sa.A a.sa.n a.sa.c,.slice a.sk.A a.sk.n a.sk.c] 268)=w6 at E T6 B6 O6 N6|-;generalize j.heap.size=g6 at E|-;have a0:=E.c0;have a1:=E.c1;have a2:=E.c2;have a3:=E.c3;have a4:=E.c4;have a5:=E.c5;have a8:w.heap.size<=w6.heap.size:=B6.size;go_wp2_with (at_builtin;refine kW.QF rfl _ _ rfl (v:=.slice J L M) (l:=G) (m:=[a]) (B:=w.heap.size) (A:=some ⟨w6.heap.size,0,none⟩) (n:=1) (c:=1) rfl (O6.alloc _) rfl rfl KF (Kind.AA.lit (heap_alloc_new _ _) rfl) dA jB ?_;intro v7 w7 g f F;obtain⟨A7,n7,c7,rfl,_,_,_,_,_⟩:=g.slice;have GB:=Ah (K:=kW) pA (Q:=fun b=>w.heap.size<=b) (k:=a) O6 N6 T6 f F;have O7:=Zh g;have G7:=Zh GB.1;have B7:Hid (fA w w7):=Zh ((B6.alloc a8 _).grown f jB (fun i hi=>(O6.lt hi).1));clear g f F GB a0 a1 a2 a3 a4 a5);go_roundw
   case rel=>exact⟨dn++[t],q,A2,n2,c2,A7,n7,c7,G++[a],rfl,rfl,a6,Zh (by rw[DT,HU.out,<-a7.out];simp[yA]),R5,O7,G7,Zh (by have:=Z.out;simp;omega),B7⟩
   case measure=>exact Z
theorem jg:∀t:PW,fL t.kids:=by
 intro t
 induction t using PW.ind with
 |h kind tag key txt attrs kids ih=>exact WZ kids ih
theorem Rh(ps:List PW):fL ps:=WZ ps (fun t _=>jg t)
end P14
namespace P8
open Go.RowKit Kd P4 P5
theorem qY(g:Int->PT):∀l:List Int,cB (l.map g)=(l.map fun i=>countP (g i)).sum
 |[]=>by simp[cB]
 |a:: l=>by simp[cB,qY g l]
theorem rY{l:List Nd}{i:Int}(h:find l i=none)(f:Nat):mD l (f+1) i= .mk ⟨#[]⟩ ⟨#[]⟩ ⟨#[]⟩ [] []:=by rw[mD,h]
theorem wZ{l:List Nd}{i:Int}{nd:Nd}(h:find l i=some nd):xA l i=nd.kids:=by unfold xA;rw[h]
theorem Kf(l:List Nd):∀(f:Nat) (i:Int),Hb (xA l) f i->countP (mD l f i)=(sub (xA l) f i).length:=by
 intro f
 induction f with
 |zero=>intro i h;exact h.elim
 |succ f ih=>
  intro i h;cases hf:find l i with
  |none=>
   have a:xA l i=[]:=(by unfold xA;rw[hf]);rw[rY hf,sub,a];simp[countP,cB]
  |some nd=>
   rw[mD,hf,sub,wZ hf];have a:=wZ hf;show countP (.mk nd.tag nd.txt nd.key nd.attrs (nd.kids.map (mD l f)))=_;rw[countP,qY,List.length_cons,List.length_flatMap];have:nd.kids.map (fun i=>countP (mD l f i))=nd.kids.map (fun i=>(sub (xA l) f i).length):=List.map_congr_left fun c b=>ih c (h c (by rw[a];exact b))
   rw[this]
theorem Cj{l:List Nd}(ha:∀x∈l,x.attrs.length<=8):∀(f:Nat) (i:Int),bL (mD l f i)=true:=by
 intro f
 induction f with
 |zero=>intro i;simp[mD,bL,DM]
 |succ f ih=>
  intro i;cases hf:find l i with
  |none=>rw[rY hf];simp[bL,DM]
  |some nd=>
   rw[mD,hf];show bL (.mk nd.tag nd.txt nd.key nd.attrs (nd.kids.map (mD l f)))=true;have b:=ha nd (kG hf).1;rw[bL,I5,Bool.and_eq_true,decide_eq_true_eq,List.all_eq_true];refine⟨by omega,fun k a=>?_⟩;obtain⟨c,_,rfl⟩:=List.mem_map.1 a;exact ih c
theorem Dj{d:D}(h:WF d){i:Int}(hi:nA d.l i=true):countP (mD d.l (d.l.length+1) i)<=200/\bL (mD d.l (d.l.length+1) i)=true:=by
 have b:Hb (xA d.l) (d.l.length+1) i:=by
  have a:Hb (xA d.l) ((MA d.l).length+1) i:=h.tr.JK (L:=MA d.l) (fun y c=>zE.1 c) (y:=i) hi;simpa[MA] using a
 refine⟨?_,Cj h.mC _ _⟩;rw[Kf _ _ _ b];have a:=eI (sub (xA d.l) (d.l.length+1) i) (MA d.l) (h.tr.vL _ i hi) (fun z e=>zE.1 (h.tr.ZJ _ i z hi e));have f:=h.VJ;simp only[MA,List.length_map] at a;omega
end P8
namespace P21
open P5 P6 P8 P16 P19 P20
structure jW(x:Nd):Prop where
 may:xC x.tag x.txt x.key=true
 mC:x.tag.toList=[]->x.attrs=[]
 aB:qC x.tag=true->x.kids=[]
def tM(l:List Nd):Prop:=∀x∈l,jW x
def SC(d:D):Prop:=WF d/\tM d.l
section
variable{l:List Nd}{d:D}
theorem WL{i:Int}{f:Nd->Nd}(h:tM l)(hf:∀x∈l,x.id=i->jW x->jW (f x)):tM (mB l i f):=fun z a=>by
 obtain⟨x,hx,rfl⟩:=FK.1 a;split
 ·rename_i e;exact hf x hx e (h x hx)
 ·exact h x hx
theorem sY(i:Int)(h:tM l):tM (UA l i):=by
 unfold UA;split
 ·exact h
 ·refine WL (WL h (fun x _ _ g=>⟨g.may,g.mC,fun e=>?_⟩)) (fun x _ _ g=>⟨g.may,g.mC,g.aB⟩);show less i x.kids=[];rw[g.aB e];rfl
theorem QT(ha:ZD l){x:Nd}(hx:x∈l):RA l x.id=x.tag:=by
 unfold RA;rw[ha.find hx]
theorem Hn{i p b:Int}(hw:WF d)(h:tM d.l)(hp:qC (RA d.l p)=false):tM (SA d.l i p b):=by
 unfold SA;refine WL (WL (sY i h) (fun x hx e g=>⟨g.may,g.mC,fun a=>?_⟩)) (fun x _ _ g=>⟨g.may,g.mC,g.aB⟩);exfalso;have f:ZD (UA d.l i):=wQ hw.xD (xL d.l i);have c:=QT f hx;rw[e] at c;have j:RA (UA d.l i) p=RA d.l p:=(fU d.l i p).1;have a:qC x.tag=true:=a;rw[<-c,j,hp] at a;cases a
theorem JN:Cl SC:=fun d r h=>by
 refine⟨jN h.1 r,?_⟩;obtain⟨b,h⟩:=h;unfold YA;split
 ·unfold rE;split
  ·exact h
  rename_i c1;split
  ·exact h
  ·intro x hx;rcases List.mem_append.1 hx with hx|hx
   ·exact h x hx
   ·rw[List.mem_singleton] at hx;subst hx;simp only[not_or] at c1;exact⟨by show xC r.tag r.txt r.key=true;simpa using c1.2,fun _=>rfl,fun _=>rfl⟩
 split
 ·unfold YD;split
  ·rename_i hp;refine Hn b h ?_;exact(SM hp).hk
  ·exact h
 split
 ·unfold uF;split
  ·exact h
  split
  ·exact h
  ·intro x hx;exact sY _ h x (List.mem_filter.1 hx).1
 split
 ·unfold XD;split
  ·exact h
  split
  ·exact h
  split
  ·exact h
  ·rename_i c1 c2 c3;refine WL h (fun x hx e g=>⟨g.may,fun c=>?_,g.aB⟩);exfalso;have:=QT b.xD hx;rw[e] at this;rw[this] at c2;exact c2 c
 split
 ·unfold nF;split
  ·exact h
  split
  ·exact h
  split
  ·exact h
  ·rename_i c1 c2 c3;refine WL h (fun x hx e g=>⟨?_,g.mC,g.aB⟩);have:=QT b.xD hx;rw[e] at this;rw[this] at c2;have c:x.tag.toList=[]:=(by simpa using c2);have a:=g.may;show xC x.tag r.txt x.key=true;unfold xC at a|-;rw[if_pos c] at a|-;simp only[Bool.and_eq_true] at a|-;exact⟨by simpa using c3,a.2⟩
 ·exact h
theorem DU{R:Nat}(h1:1<=R)(h2:R<=200):SC (ZE R):=by
 refine⟨xq h1 h2,fun x hx=>?_⟩;have:x=IB 1 ⟨#[114,111,111,116]⟩ ⟨#[]⟩ ⟨#[]⟩:=(by simpa[ZE] using hx);subst this;exact⟨by show xC ⟨#[114,111,111,116]⟩ ⟨#[]⟩ ⟨#[]⟩=true;unfold xC;rw[ByteArray.toList_eq,ByteArray.toList_eq];decide,fun _=>rfl,fun _=>rfl⟩
theorem uh(h:SC d)(i:Int):SC (gE d i).2:=⟨T0 h.1 i,by unfold gE;split<;>exact h.2⟩
theorem Ej(h:SC d)(i n:Int):SC (JE d i n).2:=⟨ra h.1 i n,by
 unfold JE;split
 ·exact h.2
 ·exact WL h.2 (fun x _ _ g=>⟨g.may,g.mC,g.aB⟩)⟩
theorem j7:∀(L:List Rc) {d:D},SC d->SC (yB d L).d
 |[],_,h=>h
 |r:: L,d,h=>by
  rw[yB];split
  ·exact j7 L (JN d r h)
  ·exact JN d r h
theorem vh(t:PT):∀(d:D) (p b:Int),SC d->SC (qB d p b t).d:=by
 induction t using PT.ind with
 |h tag txt key attrs kids ih=>
  intro d p b h;rw[JQ];have c:=j7 (ID (d.n+1) p b (.mk tag txt key attrs kids)) h;split
  ·show SC (jC _ (d.n+1) kids).d;have:∀(l:List PT),(∀k∈l,∀(d:D) (p b:Int),SC d->SC (qB d p b k).d)->∀(d:D) (p:Int),SC d->SC (jC d p l).d:=by
    intro l
    induction l with
    |nil=>intro _ d p h;exact h
    |cons a l ihl=>
     intro e d p h;rw[jC];have f:=e a FA d p 0 h;split
     ·exact ihl (fun k g=>e k (by simp[g])) _ p f
     ·exact f
   exact this kids ih _ _ c
  ·exact c
theorem xZ:∀(l:List PT) {s:Sg},SC s.1->SC (YE l s).1
 |[],_,h=>h
 |t:: l,s,h=>xZ l (s:=((qB s.1 1 0 t).d,s.2++(qB s.1 1 0 t).done)) (vh t s.1 1 0 h)
theorem Fj{s:Sg}(h:SC s.1)(x:uA):SC (fF s x).2.1:=by
 unfold fF;split
 ·exact h
 split
 ·exact h
 ·exact xZ _ (yK JN _ h)
theorem wh{s:Sg}(h:SC s.1)(f:Nat)(par:Int)(ids:List Int)(want:List P14.PW)(b:Int):SC (uB f s par ids b want).1:=by
 cases f with
 |zero=>exact h
 |succ f=>
  rw[KJ];exact yK JN _ (bO JN (tP JN f) h _ Zl)
theorem Gj{s:Sg}(h:SC s.1)(i:Int)(b:uA)(o:Bool):SC (pD s i b o).2.1:=by
 unfold pD
 repeat' split
 all_goals first|exact h|exact wh h _ _ _ _ _
theorem fV{d:D}(h:SC d)(x:wI):SC (NC d x).s.1:=by
 unfold NC;split
 ·exact Fj (s:=(d,[])) h _
 split
 ·exact Gj (s:=(d,[])) h _ _ _
 split
 ·exact uh h x.id
 split
 ·exact Ej h x.id x.n
 split
 ·split<;>exact h
 split
 ·split<;>exact h
 ·exact h
theorem p7(h:SC d):∀(f:Nat) (i:Int),Hb (xA d.l) f i->nA d.l i=true->iC (mD d.l f i)=true
 |0,_,hb,_=>hb.elim
 |f+1,i,hb,hi=>by
  obtain⟨nd,hf⟩:=uK hi;rw[mD,hf];have hm:=(kG hf).1;have g:=h.2 nd hm;have hk:∀c∈nd.kids,iC (mD d.l f c)=true:=fun c hc=>by
   rw[<-EI hf] at hc;exact p7 h f c (hb c hc) (h.1.tr.aB i c hc).2.1
  have hL:gD (nd.kids.map (mD d.l f))=true:=by
   rw[DK,List.all_eq_true];intro t ht;obtain⟨c,hc,rfl⟩:=List.mem_map.1 ht;exact hk c hc
  have hmm:=g.may;unfold xC at hmm;show iC (.mk nd.tag nd.txt nd.key nd.attrs (nd.kids.map (mD d.l f)))=true;rw[iC];by_cases e:nd.tag.toList=[]
  ·rw[if_pos e] at hmm;rw[if_pos (by simp[e]),g.mC e,h.1.elem nd hm e];simp only[Bool.and_eq_true,decide_eq_true_eq] at hmm;simp[hmm.1,hmm.2]
  ·rw[if_neg e] at hmm;rw[if_neg (by simpa using e),hL,h.1.xM nd hm];simp only[Bool.and_eq_true,decide_eq_true_eq] at hmm;obtain⟨⟨m1,m2⟩,m3⟩:=hmm;rw[m1,m2,m3];cases hv:P1.dC nd.tag.data.toList with
   |false=>simp
   |true=>rw[g.aB (by unfold qC;rw[hv];simp)];simp
theorem Ve(h:SC d){i:Int}(hi:nA d.l i=true):iC (mD d.l (d.l.length+1) i)=true:=by
 refine p7 h _ i ?_ hi;have a:Hb (xA d.l) ((MA d.l).length+1) i:=h.1.tr.JK (L:=MA d.l) (fun y b=>zE.1 b) (y:=i) hi;simpa[MA] using a
end
end P21
namespace P7
open Go.RowKit Kd P4 P5
end P7
namespace P21
open P5 P6 P8 P11 P14 P16 P19 P20
section
variable{s s' s2:Sg}
end

end P21
namespace P21
open Go.RowKit Kd P4 P5 P6 P7 P8 P9 P10 P11 P12 P13 P14 P16 P19 P20
structure SV where
 kind:Int
 id:Int
 n:Int
 txt:qA
 sb:Sv
 bytes:uA
 sp:Sv
 places:List Int
def SV.mF(a:SV):wI:=⟨a.kind,a.id,a.n,a.txt,a.bytes,a.places⟩
def SV.cells(a:SV):List Value:=[aA a.kind,aA a.id,aA a.n,bA a.txt,.slice a.sb.A a.sb.n a.sb.c,.slice a.sp.A a.sp.n a.sp.c]
theorem mw:(prog.info? 36).map (fun i=>(i.zero,i.size,i.bytes))=some (some (.agg #[aA 0,aA 0,aA 0,oA,tA,tA]),6,88):=by kernel_rfl
def kS:Kind prog SV where
 t:=22
 e:=36
 size:=6
 bytes:=88
 z:=.agg #[aA 0,aA 0,aA 0,oA,tA,tA]
 cs:=SV.cells
 ht:=underlying22
 info:=LH mw
 zH:=rfl
 zG:=by decide
 BH:=by decide
 len:=fun _=>rfl
 one:=fun a u hu=>by simp[SV.cells] at hu;rcases hu with rfl|rfl|rfl|rfl|rfl|rfl<;>rfl
theorem Hj{w:World}{B:Nat}{A:vA}{l:List SV}(h:kS.AA w B A l){k:Nat}(hk:k<l.length):
 ∃b o,A=some (cA b o)/\b<B/\w.cell? ⟨b,o+k*6,none⟩=some (aA l[k].kind)/\w.cell? ⟨b,o+k*6+1,none⟩=some (aA l[k].id)/\w.cell? ⟨b,o+k*6+2,none⟩=some (aA l[k].n)/\
  w.cell? ⟨b,o+k*6+3,none⟩=some (bA l[k].txt)/\w.cell? ⟨b,o+k*6+4,none⟩=some (.slice l[k].sb.A l[k].sb.n l[k].sb.c)/\w.cell? ⟨b,o+k*6+5,none⟩=some (.slice l[k].sp.A l[k].sp.n l[k].sp.c):=by
 obtain⟨b,o,rfl,c,a⟩:=h.at hk;exact⟨b,o,rfl,c,a 0 _ rfl,a 1 _ rfl,a 2 _ rfl,a 3 _ rfl,a 4 _ rfl,a 5 _ rfl⟩
structure pK(w:World)(a:SV):Prop where
 bl:a.bytes.length=a.sb.n
 bc:a.sb.n<=a.sb.c
 bm:a.sb.c<=maxLen
 bz:a.sb.A=none->a.sb.c=0
 bh:kB.AA w w.heap.size a.sb.A a.bytes
 pl:a.places.length=a.sp.n
 pc:a.sp.n<=a.sp.c
 pm:a.sp.c<=maxLen
 pz:a.sp.A=none->a.sp.c=0
 ph:kI.AA w w.heap.size a.sp.A a.places
 tm:a.txt.size<=maxLen
theorem pK.on{w w':World}{a:SV}(h:pK w a)(hb:fA w w'):pK w' a:=⟨h.bl,h.bc,h.bm,h.bz,h.bh.on hb,h.pl,h.pc,h.pm,h.pz,h.ph.on hb,h.tm⟩
structure qS(a:SV):Prop where
 t:a.txt.size<=7000
 b:a.bytes.length<=3000
 p:a.places.length<=30
def SB(w:World)(g:Nat)(a:SV):Prop:=w.heap[g]? = some (.cells #[aA a.kind,aA a.id,aA a.n,bA a.txt,.slice a.sb.A a.sb.n a.sb.c,.slice a.sp.A a.sp.n a.sp.c] 36 (0,0))
section
variable{w w':World}{g C:Nat}{a:SV}
theorem SB.new(w:World)(a:SV):SB (w.alloc (.cells #[aA a.kind,aA a.id,aA a.n,bA a.txt,.slice a.sb.A a.sb.n a.sb.c,.slice a.sp.A a.sp.n a.sp.c] 36)) w.heap.size a:=heap_alloc_new w _
theorem SB.below(h:SB w g a)(hb:Below C w w')(hC:g<C):SB w' g a:=(hb.block g hC).trans h
theorem SB.c0(h:SB w g a):w.cell? (cA g 0)=some (aA a.kind):=cell_of_row w g 0 _ _ (0,0) h
theorem SB.c1(h:SB w g a):w.cell? (cA g 1)=some (aA a.id):=cell_of_row w g 1 _ _ (0,0) h
theorem SB.c2(h:SB w g a):w.cell? (cA g 2)=some (aA a.n):=cell_of_row w g 2 _ _ (0,0) h
theorem SB.c3(h:SB w g a):w.cell? (cA g 3)=some (bA a.txt):=cell_of_row w g 3 _ _ (0,0) h
theorem SB.c4(h:SB w g a):w.cell? (cA g 4)=some (.slice a.sb.A a.sb.n a.sb.c):=cell_of_row w g 4 _ _ (0,0) h
theorem SB.c5(h:SB w g a):w.cell? (cA g 5)=some (.slice a.sp.A a.sp.n a.sp.c):=cell_of_row w g 5 _ _ (0,0) h
end
theorem Dr{P:Program}{α:Type}{K:Kind P α}{w:World}{D:Nat}{A:vA}{n c:Nat}{l:List α}(h:K.Own w D (.slice A n c) l):l.length=n/\n<=c/\c<=maxLen/\(A=none->c=0)/\K.AA w w.heap.size A l:=by
 obtain⟨i,j,k,a,b,d,e,f,g⟩:=h.slice;injection a with h1 h2 h3;subst h1;subst h2;subst h3;exact⟨b,d,e,f,g⟩
def fO(Se:World->Nat->(Nat->Prop)->D->List Rc->Prop)(w:World)(s:Nat)(F:Nat->Prop)(r:kL)(e:Ending)(w':World):Prop:=
 ∃F':Nat->Prop,e= .returned (.agg #[aA r.code,bA r.txt,aA r.id,aA ((r.s.2.length:Nat):Int)])/\Se w' s F' r.s.1 r.s.2/\iA F w w'/\∀k,F' k->F k\/w.heap.size<=k
structure oI(Wo:World->Prop)(Se:World->Nat->(Nat->Prop)->D->List Rc->Prop):Prop where
 wo:∀{w w'},Wo w->fA w w'->Wo w'
 lt:∀{w s F d l k},Se w s F d l->F k->k<w.heap.size
 QE:∀{w s F d l},Se w s F d l->vC w F
 VB:∀{w w' s F d l} {T:Nat->Prop},Se w s F d l->iA T w w'->(∀k,F k->¬T k)->vC w T->Se w' s F d l
 WN:∀(room:Int) (w:World),room<1\/200<room->jA 6 #[aA room] w fun e w'=>e= .returned (.tuple #[.pointer none,QA 1])/\fA w w'
 gV:∀(R:Nat) (w:World),1<=R->R<=200->jA 6 #[aA (R:Int)] w fun e w'=>∃(s:Nat) (F:Nat->Prop),e= .returned (.tuple #[lA s,.nilIface])/\Se w' s F (ZE R) []/\fA w w'/\∀k,F k->w.heap.size<=k
 step:∀(w:World) (s:Nat) (F:Nat->Prop) (d:D) (l:List Rc) (x:wI) (A:vA) (n c:Nat) (A2:vA) (n2 c2:Nat),Wo w->Se w s F d l->SC d->d.n<=80000->x.txt.size<=100000->
  (∀w',iA F w w'->kB.AA w' w'.heap.size A x.bytes)->x.bytes.length=n->n<=c->c<=maxLen->(A=none->c=0)->n<=100000->(∀w',iA F w w'->kI.AA w' w'.heap.size A2 x.places)->x.places.length=n2->n2<=c2->c2<=maxLen->(A2=none->c2=0)->n2<=1000000->
  jA 9 #[lA s,.agg #[aA x.kind,aA x.id,aA x.n,bA x.txt,.slice A n c,.slice A2 n2 c2]] w (fO Se w s F (NC d x))
 doc:∀(w:World) (s:Nat) (F:Nat->Prop) (d:D) (l:List Rc),Se w s F d l->SC d->d.n<=90000->
  jA 11 #[lA s] w fun e w'=>∃(p:Nat) (x:Dx),e= .returned (lA p)/\Dc w' w.heap.size p x/\x.d=d/\fA w w'
 last:∀(w:World) (s:Nat) (F:Nat->Prop) (d:D) (l:List Rc),Se w s F d l->l.length<=900000->
  jA 14 #[lA s] w fun e w'=>∃(A:vA) (n c:Nat) (rs:List RR),e= .returned (.slice A n c)/\kR.Own w' w.heap.size (.slice A n c) rs/\rs.map (·.r)=l/\(∀a∈rs,bK w' a)/\fA w w'
variable{Wo:World->Prop}{Se:World->Nat->(Nat->Prop)->D->List Rc->Prop}
theorem oI.below(K:oI Wo Se){w w':World}{s:Nat}{F:Nat->Prop}{d:D}{l:List Rc}(h:Se w s F d l)(hb:fA w w'):Se w' s F d l:=K.VB h (iA.oB hb (fun _=>False)) (fun _ _ h=>h) (vC.none w)
section
variable{w w':World}{B s q:Nat}{d:D}{l:List Rc}
end
end P21
namespace P21
open P5 P6 P8 P10 P14 P16 P19 P20
theorem E7:∀(m:List PT) {s:Sg},WF s.1->qC (RA s.1.l 1)=false->gD m=true->s.1.l.length+cB m<=s.1.R->
 ∃ids,xH s.1 1 ids (cB m) (YE m s).1/\aG (YE m s).1.l s.1.n ids m
 |[],s,h,_,_,_=>⟨[],by simpa[YE,cB] using xH.same h 1,by simp[aG]⟩
 |a:: m,s,h,hk,hmay,hR=>by
  rw[gD,Bool.and_eq_true] at hmay;rw[cB] at hR;have hp:=h.root;obtain⟨a1,a2,a3⟩:=built a s.1 1 h hp hk hmay.1 dA;have hpn:=h.pos hp;obtain⟨ids,b2,b3⟩:=E7 m (s:=((qB s.1 1 0 a).d,s.2++(qB s.1 1 0 a).done)) a2.wf (by rw[show((qB s.1 1 0 a).d,s.2++(qB s.1 1 0 a).done).1=(qB s.1 1 0 a).d from rfl,a2.tag hpn.2];exact hk) hmay.2 (by
   show(qB s.1 1 0 a).d.l.length+cB m<=(qB s.1 1 0 a).d.R;rw[a2.R,a2.len];omega)
  have b2:xH (qB s.1 1 0 a).d 1 ids (cB m) (YE m ((qB s.1 1 0 a).d,s.2++(qB s.1 1 0 a).done)).1:=b2;have b3:aG (YE m ((qB s.1 1 0 a).d,s.2++(qB s.1 1 0 a).done)).1.l (qB s.1 1 0 a).d.n ids m:=b3;have hn1:=a2.n;refine⟨(s.1.n+1):: ids,?_,?_⟩
  ·rw[YE,cB];refine⟨b2.wf,?_,?_,?_,fun y hy=>?_⟩
   ·rw[b2.n,a2.n];simp;omega
   ·rw[b2.R,a2.R]
   ·rw[b2.len,a2.len];omega
   ·rw[b2.old y (by rw[hn1];omega),a2.old y hy,Option.map_map];congr 1;funext x;exact qZ 1 [s.1.n+1] ids x
  ·rw[YE,aG];refine⟨BU (Int.le_refl _) (fun y nd hy hf=>?_) a _ a3,iR (by rw[hn1];omega) (fun y nd _ hf=>hf) m ids b3⟩;have hrng:=a2.wf.zJ nd (kG hf).1;have hid:=(kG hf).2;rw[b2.old y dA,hf,Option.map_some,oN dA]
theorem Pn{d:D}(hw:WF d){i y:Int}(hi:nA d.l i=true)(hy:y∈below d.l i):Sb d.l i y:=by
 have h:=Ng hw hi hy;unfold inside at h;obtain⟨j,a,b⟩:=ZN _ _ _ (of_decide_eq_true h);exact Zc hw (hw.tr.jG b) j a
theorem wY{s:Sg}(hw:WF s.1):xc s (cC (xA s.1.l 1) s) 1 (xA s.1.l 1) []:=by
 obtain⟨a,c⟩:=fJ hw 1;have b:J0 s 1:=⟨hw,by decide,hw.root⟩;have j:Jn s 1 (xA s.1.l 1) s:=⟨⟨hw,XE.refl _ _,a⟩,Tg.refl _,yP hw⟩;have d:=KO b (xA s.1.l 1) j (fun i e=>e) c;have g:=gZ (P:=[]) (Q:=[]) (par:=1) (xA s.1.l 1) hw hw.root FA d;simpa using g
theorem H7{s:Sg}(hw:WF s.1):(cC (xA s.1.l 1) s).1.l.length+(below s.1.l 1).length<=s.1.l.length+1:=by
 have g:=wY hw;have i:=hw.tr.vL (s.1.l.length+1) 1 hw.root;have m:Tg s.1 (cC (xA s.1.l 1) s).1:=(yK (vP s.1) (xA s.1.l 1) (s:=s) ⟨hw,Tg.refl _⟩).2;have j:(MA (cC (xA s.1.l 1) s).1.l).Nodup:=List.pairwise_map.2 (g.wf.xD.imp fun h e=>by omega);have n:∀y∈(below s.1.l 1).erase 1,y∉MA (cC (xA s.1.l 1) s).1.l:=fun y d r=>by
  have o:y≠1:=fun e=>by subst e;exact(List.Nodup.mem_erase_iff i).1 d |>.1 rfl
  have p:=Pn hw hw.root (List.erase_subset d);rcases p.vu with e|⟨c,hc,hs⟩
  ·exact o e
  ·have q:=g.gone c hc y hs;have f:=zE.2 r;unfold nA at f;rw[q] at f;cases f
 have k:=eI (MA (cC (xA s.1.l 1) s).1.l++(below s.1.l 1).erase 1) (MA s.1.l)
  (List.nodup_append.2 ⟨j,i.erase 1,fun a t b u e=>by subst e;exact n a u t⟩)
  (fun y d=>by
   rcases List.mem_append.1 d with d|d
   ·have f:=zE.2 d;have v:=(g.wf.pos f).2;exact zE.1 (m.tag y (by rw[<-g.n];exact v) f).1
   ·exact zE.1 (hw.tr.ZJ _ 1 y hw.root (List.erase_subset d)))
 have q:(below s.1.l 1).length<=((below s.1.l 1).erase 1).length+1:=(by rw[List.length_erase];split<;>omega);simp only[List.length_append,MA,List.length_map] at k;omega
end P21
namespace P21
open P5 P6 P8 P11 P14 P16 P19 P20
section
variable{rec:Rec}{s0 s s':Sg}{par beh:Int}{ids:List Int}{want:List PW}{old:List Ol}
end
section
variable{f:Nat}{s:Sg}{par a:Int}{x:PW}
end
def Whole(d:D):Prop:=∀y,nA d.l y=true->y≠1->EA d.l y≠0
section
variable{s s0:Sg}{par beh:Int}{ids:List Int}{want:List PW}{old:List Ol}{f:Nat}
theorem Sj{R:Nat}:Whole (ZE R):=fun y b c=>by
 exfalso;obtain⟨x,hx⟩:=uK b;obtain⟨d,a⟩:=kG hx;have:x=IB 1 ⟨#[114,111,111,116]⟩ ⟨#[]⟩ ⟨#[]⟩:=(by simpa[ZE] using d);subst this;exact c a.symm
end
end P21
namespace P21
open P5 P6 P8 P10 P14 P16 P19 P20
end P21
namespace P21
open P5 P6 P8 P9 P10 P11 P12 P13 P14 P16 P19 P20
theorem yh{d:D}(hw:WF d)(x:uA):(fF (d,[]) x).2=(d,[])\/cB (JD x).1<=400:=by
 unfold fF;split
 ·exact .inl rfl
 split
 ·exact .inl rfl
 ·rename_i h1 h2;have a:=H7 (s:=(d,[])) hw;have b:=hw.len;have c:=hw.room;simp only at h2 a;exact .inr dA
theorem jR{d:D}(hw:WF d)(x:wI):(NC d x).s.1.n<=d.n+400/\(NC d x).s.2.length<=260000:=by
 have e0:(d,([]:List Rc)).1.n=d.n:=rfl;unfold NC;split
 ·show(fF (d,[]) _).2.1.n<=_/\(fF (d,[]) _).2.2.length<=_;rcases yh hw x.txt.data.toList with h|h
  ·rw[h];exact⟨by show d.n<=_;omega,by simp⟩
  ·have a:=Ya (s:=(d,[])) hw x.txt.data.toList;exact⟨by have:=a.2.1;omega,by have:=a.2.2;simp only[List.length_nil] at this;omega⟩
 split
 ·show(pD (d,[]) _ _ _).2.1.n<=_/\(pD (d,[]) _ _ _).2.2.length<=_;have a:=Bc (s:=(d,[])) hw x.id x.bytes (decide (x.kind=3));exact⟨by have:=a.2.1;omega,by have:=a.2.2;simp only[List.length_nil] at this;omega⟩
 split
 ·refine⟨?_,by simp⟩;show(gE d x.id).2.n<=_;unfold gE;split<;>(show d.n<=_;omega)
 split
 ·refine⟨?_,by simp⟩;show(JE d x.id x.n).2.n<=_;unfold JE;split<;>(show d.n<=_;omega)
 split
 ·split<;>exact⟨by show d.n<=_;omega,by simp⟩
 split
 ·split<;>exact⟨by show d.n<=_;omega,by simp⟩
 ·exact⟨by show d.n<=_;omega,by simp⟩
theorem IV{d:D}(x:wI)(h:(NC d x).code≠0):(NC d x).s=(d,[])/\(NC d x).txt=z0/\(NC d x).id=0:=by
 unfold NC at h|-;split at h
 ·rename_i hk;rw[if_pos hk];refine⟨?_,rfl,rfl⟩;show(fF (d,[]) _).2=_;have a:((fF (d,[]) x.txt.data.toList).1:Int)≠0:=h;revert a;unfold fF;split
  ·exact fun _=>rfl
  split
  ·exact fun _=>rfl
  ·intro a;exact absurd rfl a
 rename_i k1;rw[if_neg k1];split at h
 ·rename_i hk;rw[if_pos hk];refine⟨?_,rfl,rfl⟩;show(pD (d,[]) _ _ _).2=_;have a:((pD (d,[]) x.id x.bytes (decide (x.kind=3))).1:Int)≠0:=h;revert a;unfold pD
  repeat' split
  all_goals first|exact fun _=>rfl|(intro a;exact absurd rfl a)
 rename_i k2;rw[if_neg k2];split at h
 ·rename_i hk;rw[if_pos hk];have a:(gE d x.id).1≠0:=h;unfold gE at a|-;split at a
  ·rename_i hh;rw[if_pos hh];exact⟨rfl,rfl,rfl⟩
  ·exact absurd rfl a
 rename_i k3;rw[if_neg k3];split at h
 ·rename_i hk;rw[if_pos hk];have a:(JE d x.id x.n).1≠0:=h;unfold JE at a|-;split at a
  ·rename_i hh;rw[if_pos hh];exact⟨rfl,rfl,rfl⟩
  ·exact absurd rfl a
 rename_i k4;rw[if_neg k4];split at h
 ·rename_i hk;rw[if_pos hk];split at h
  ·exact absurd rfl h
  ·rename_i hh;rw[if_neg hh];exact⟨rfl,rfl,rfl⟩
 rename_i k5;rw[if_neg k5];split at h
 ·rename_i hk;rw[if_pos hk];split at h
  ·exact absurd rfl h
  ·exact⟨rfl,rfl,rfl⟩
 ·rename_i k6;rw[if_neg k6];exact⟨rfl,rfl,rfl⟩
end P21
namespace P21
open Go.RowKit Kd P4 P5
def vy(l:List SV)(most:Nat)(w:World)(e:Ending)(w':World):Prop:=w=w'/\(e= .returned (aA 0)\/(e= .returned (aA 1)/\l.length<=most/\∀a∈l,qS a))
theorem Rx(l:List SV)(A:vA)(n c most:Nat)(w:World)(hn:l.length=n)(hnm:n<=maxLen)(hmost:most<=1000)(H:kS.AA w w.heap.size A l)(hok:∀a∈l,a.bytes.length=a.sb.n/\a.places.length=a.sp.n):
 jA 7 #[.slice A n c,aA (most:Int)] w (vy l most w):=by
 have v:=Zh H;have i:=Zh hn;have x:=Zh hok;have s:Hid (∃k:Nat,k<=n/\k<=most/\(Value.int .i64 0) = aA k/\Hid (∀j (d:j<l.length),j<k->qS l[j])):=Zh ⟨0,by omega,by omega,rfl,Zh (fun j d h=>by omega)⟩;clear H hn hok;go_enter func7,ntmps7;go_wp2_with fail;go_loop [5] (fun m=>∃k:Nat,k<=n/\k<=most/\m = aA k/\Hid (∀j (d:j<l.length),j<k->qS l[j])) (fun m=>n-(intOf m).toNat)
 case atStart=>exact s
 case round=>
  obtain⟨k,R,y,rfl,g⟩:=hrel;clear s;by_cases z:k<n
  ·by_cases t:k<most
   ·have f:k<l.length:=(IA i.out);obtain⟨b,o,rfl,S,B,C,D,E,F,G⟩:=Hj v f;have hok:=x _ (List.getElem_mem f);have p:Hid (qS l[k]->∀j (d:j<l.length),j<k+1->qS l[j]):=Zh (fun h j d I=>by
     by_cases e:j=k
     ·subst e;exact h
     ·exact g j d dA)
    generalize l[k]=a at B C D E F G hok p;clear f;by_cases J:7000<a.txt.size
    ·have q:decide ((7000:Int)<(a.txt.size:Int))=true:=jB;go_wp2_with fail;go_ret;exact⟨rfl,.inl rfl⟩
    have q:decide ((7000:Int)<(a.txt.size:Int))=false:=jB;by_cases K:3000<a.sb.n
    ·have L:decide ((3000:Int)<(a.sb.n:Int))=true:=jB;go_wp2_with fail;go_ret;exact⟨rfl,.inl rfl⟩
    have L:decide ((3000:Int)<(a.sb.n:Int))=false:=jB;by_cases M:30<a.sp.n
    ·have N:decide ((30:Int)<(a.sp.n:Int))=true:=jB;go_wp2_with fail;go_ret;exact⟨rfl,.inl rfl⟩
    have N:decide ((30:Int)<(a.sp.n:Int))=false:=jB;have u:qS a:=⟨by omega,by omega,by omega⟩;have r:=Zh (p u);clear hok u p J K M;go_wp2_with fail;go_round
    case rel=>exact⟨k+1,by omega,by omega,by go_num,r⟩
    case measure=>simp[intOf];omega
   ·have O:most<n:=dA;have q:decide ((most:Int)<(n:Int))=true:=jB;go_wp2_with fail;go_ret;exact⟨rfl,.inl rfl⟩
  ·obtain rfl:k=n:=dA
   have q:decide ((most:Int)<(k:Int))=false:=jB;have P:∀a∈l,qS a:=fun a Q=>by
    obtain⟨j,d,rfl⟩:=List.getElem_of_mem Q;exact g j d (IA i.out)
   go_wp2_with fail;go_ret;exact⟨rfl,.inr ⟨rfl,by have:=i.out;omega,P⟩⟩
end P21
namespace P21
open P5 P6 P8 P9 P10 P11 P12 P13 P14 P16 P19 P20
def Td:qA:=⟨#[60,112,62,97,60,47,112,62]⟩
def FM:qA:=⟨#[60,114,111,111,116,62,60,112,62,97,60,47,112,62,60,47,114,111,111,116,62]⟩
def gQ:wI:=⟨1,0,0,Td,[],[]⟩
def KW:wI:=⟨6,1,0,⟨#[]⟩,[],[]⟩
def LW:wI:=⟨0,0,0,⟨#[]⟩,[],[]⟩
theorem Ax:(NC (ZE 9) gQ).code=0/\(NC (ZE 9) gQ).s.2.length=4:=by decide +kernel
theorem Bx:(NC (NC (ZE 9) gQ).s.1 KW).txt=FM:=by decide +kernel
theorem Cx(d:D):(NC d LW).code=1/\(NC d LW).s=(d,[]):=by
 unfold NC;exact⟨rfl,rfl⟩
end P21
namespace P21
open Go.RowKit Kd P4 P5 P7 P12 P16 P19 P20
variable{Wo:World->Prop}{Se:World->Nat->(Nat->Prop)->D->List Rc->Prop}
theorem oU(K:oI Wo Se){w:World}{s:Nat}{F:Nat->Prop}{d:D}{l:List Rc}(kind id n:Int)(t:qA){r:kL}(hr:NC d ⟨kind,id,n,t,[],[]⟩=r)(hw:Wo w)(h:Se w s F d l)(hg:SC d)(hn:d.n<=80000)(ht:t.size<=100000):
 jA 9 #[lA s,.agg #[aA kind,aA id,aA n,bA t,tA,tA]] w (fO Se w s F r):=by
 have:=K.step w s F d l ⟨kind,id,n,t,[],[]⟩ none 0 0 none 0 0 hw h hg hn ht (fun _ _=>Kind.AA.nil _ _ _) rfl Zl TG (fun _=>rfl) dA (fun _ _=>Kind.AA.nil _ _ _) rfl Zl TG (fun _=>rfl) dA;rw[hr] at this;exact this
theorem Iu(K:oI Wo Se)(r:Int)(R:Nat)(w:World)(hr:r=R)(h1:1<=R)(h2:R<=200):jA 6 #[aA r] w fun e w'=>∃(s:Nat) (F:Nat->Prop),e= .returned (.tuple #[lA s,.nilIface])/\Se w' s F (ZE R) []/\fA w w'/\∀k,F k->w.heap.size<=k:=by
 subst hr;exact K.gV R w h1 h2
theorem Qn{B:Nat}{w w':World}{s:Nat}{F:Nat->Prop}{r:kL}{e:Ending}(h:fO Se w s F r e w')(hF:∀k,F k->B<=k)(hB:B<=w.heap.size):
 ∃F':Nat->Prop,e= .returned (.agg #[aA r.code,bA r.txt,aA r.id,aA ((r.s.2.length:Nat):Int)])/\Se w' s F' r.s.1 r.s.2/\(∀k,F' k->B<=k)/\Below B w w':=by
 obtain⟨F',a,b,c,d⟩:=h;refine⟨F',a,b,fun k f=>?_,c.eD (fun i _ g=>hF i g) hB⟩;rcases d k f with e|e
 ·exact hF k e
 ·omega
theorem Rn(K:oI Wo Se):∀w:World,Wo w->jA 5 #[] w fun e w'=>e= .returned (.bool true)/\fA w w':=by
 intro w N;have q1:=vX;have q2:=Na;have q3:=qF;have q4:=wX;have q5:=AF;have WO:=Zh N;have b:=Zh K;clear N K;go_enter func5,ntmps5;go_wp2_with fail;refine(Iu b 9 9 w rfl dA dA).mono ?_;rintro e w1 ⟨s,F,rfl,O,b1,hF⟩;have S1:=Zh O;have F1:=Zh hF;have B1:=Zh b1;clear O b1 hF;go_wp2_with fail;refine(b.WN 0 w1 (.inl dA)).mono ?_;rintro e w2 ⟨rfl,b2⟩;rw[show QA 1= .iface 29 (aA 1) from rfl];have S2:=Zh (b.below S1 b2);have B2:=Zh (B1.trans (b2.mono B1.size));clear b2 S1 B1;obtain⟨c,P⟩:=DA (NC (ZE 9) gQ);have g9:SC (ZE 9):=DU dA dA;have Q:(ZE 9).n<=80000:=(by show(1:Int)<=_;omega);have CA:Hid (jA 9 #[lA s,.agg #[aA 1,aA 0,aA 0,bA ⟨#[60,112,62,97,60,47,112,62]⟩,tA,tA]] w2 (fO Se w2 s F c)):=Zh (oU b 1 0 0 Td P (b.wo WO B2) S2 g9 Q pA);have eA:=Ax;rw[P] at eA;have R:Hid (SC c.s.1/\c.s.1.n<=401):=Zh (by rw[<-P];exact⟨fV g9 _,by have:=(jR g9.1 gQ).1;have h:(ZE 9).n=1:=rfl;omega⟩);have eB:=Bx;rw[P] at eB;clear P g9 Q;obtain⟨a,hB⟩:=DA (NC c.s.1 KW);rw[hB] at eB;obtain⟨a6,a7⟩:=eA;go_wp2_with fail;refine CA.mono ?_;rintro e l hv;obtain⟨F3,rfl,s3,f3,b3⟩:=Qn hv F1 B2.size;rw[a6,a7,show(((4:Nat)):Int)=4 from rfl];have S3:=Zh s3;have y:=Zh f3;have B3:=Zh (B2.trans b3);clear hv s3 f3 b3 CA S2 F1 B2;have L:Hid ((l.alloc (.cells #[aA 0,bA c.txt,aA c.id,aA 4] 38)).heap[l.heap.size]? = some (.cells #[aA 0,bA c.txt,aA c.id,aA 4] 38 (0,0))):=Zh (heap_alloc_new l _);have S:Hid (fA l (l.alloc (.cells #[aA 0,bA c.txt,aA c.id,aA 4] 38))):=Zh (Zb _ _);go_upto_region 6 with fail;generalize l.alloc (.cells #[aA 0,bA c.txt,aA c.id,aA 4] 38)=w4 at L S|-;obtain⟨d,z⟩:=DA l.heap.size;have T:=Zh (B3.trans (S.mono B3.size));have S4:=Zh (b.below S3 S);have m:Hid (∀k,F3 k->k<l.heap.size):=Zh (fun k A=>b.lt S3 A);have CB:Hid (jA 9 #[lA s,.agg #[aA 6,aA 1,aA 0,oA,tA,tA]] w4 (fO Se w4 s F3 a)):=Zh (oU b 6 1 0 ⟨#[]⟩ hB (b.wo WO T) S4 R.1 (IA R.2) pA);have GB:Hid (SC a.s.1/\a.s.1.n<=801):=Zh (by rw[<-hB];exact⟨fV R.1 _,by have:=(jR R.1.1 KW).1;have:=R.2;omega⟩);rw[z] at L m|-;have U:d<=w4.heap.size:=(by rw[<-z];exact S.size);clear z hB S3 B3 S;go_wp2_with fail;refine CB.mono ?_;rintro e j ⟨F5,rfl,s5,b5,V⟩;rw[eB];have o:Hid (j.heap[d]? = some (.cells #[aA 0,bA c.txt,aA c.id,aA 4] 38 (0,0))):=Zh ((b5.block d (JA L) (fun h=>by have:=m d h;omega)).trans L);have B5:Hid (fA w j):=Zh (T.trans (b5.eD (fun i _ hi=>y i hi) T.size));have S5:=Zh s5;have B:Hid (∀k,F5 k->w.heap.size<=k/\k≠d):=Zh (fun k A=>by
  rcases V k A with h|h
  ·exact⟨y k h,by have:=m k h;omega⟩
  ·have:=T.size;have:=JA L;exact⟨by omega,by omega⟩)
 clear s5 b5 V CB S4 T L m y;have XB:Hid ((j.alloc (.cells #[aA a.code,bA FM,aA a.id,aA ((a.s.2.length:Nat):Int)] 38)).heap[j.heap.size]? = some (.cells #[aA a.code,bA FM,aA a.id,aA ((a.s.2.length:Nat):Int)] 38 (0,0))):=Zh (heap_alloc_new j _);have W:Hid (fA j (j.alloc (.cells #[aA a.code,bA FM,aA a.id,aA ((a.s.2.length:Nat):Int)] 38))):=Zh (Zb _ _);go_upto_region 7 with fail;generalize j.alloc (.cells #[aA a.code,bA FM,aA a.id,aA ((a.s.2.length:Nat):Int)] 38)=w6 at XB W|-;obtain⟨gB,C⟩:=DA j.heap.size;have B6:=Zh (B5.trans (W.mono B5.size));have S6:=Zh (b.below S5 W);have D:=Zh ((W.block d (JA o)).trans o);have q:Hid (∀k,F5 k->w.heap.size<=k/\k≠d/\k≠gB):=Zh (fun k A=>⟨(B k A).1,(B k A).2,by have:=b.lt S5 A;omega⟩);have a8:d<gB:=(by rw[<-C];exact JA o);obtain⟨E,G⟩:=Cx a.s.1;obtain⟨rC,hC⟩:=DA (NC a.s.1 LW);rw[hC] at E G;have CC:Hid (jA 9 #[lA s,.agg #[aA 0,aA 0,aA 0,oA,tA,tA]] w6 (fO Se w6 s F5 rC)):=Zh (oU b 0 0 0 ⟨#[]⟩ hC (b.wo WO B6) S6 GB.1 (IA GB.2) pA);rw[C] at XB|-;clear C hC S5 B5 W o B;go_wp2_with fail;refine CC.mono ?_;rintro e f ⟨F7,rfl,s7,b7,a9⟩;rw[E];rw[G] at s7|-;have H:Hid (f.heap[d]? = some (.cells #[aA 0,bA c.txt,aA c.id,aA 4] 38 (0,0))):=Zh ((b7.block d (JA D) (fun h=>(q d h).2.1 rfl)).trans D);have I:Hid (f.heap[gB]? = some (.cells #[aA a.code,bA FM,aA a.id,aA ((a.s.2.length:Nat):Int)] 38 (0,0))):=Zh ((b7.block gB (JA XB) (fun h=>(q gB h).2.2 rfl)).trans XB);have B7:Hid (fA w f):=Zh (B6.trans (b7.eD (fun i _ hi=>(q i hi).1) B6.size));have S7:=Zh s7;clear s7 b7 a9 CC S6 B6 D XB q;obtain⟨vc,X⟩:=DA rC.txt;obtain⟨ic,Y⟩:=DA rC.id;rw[X,Y];clear X Y E G;rw[show((((a.s.1,([]:List Rc)):Sg).2.length:Nat):Int)=0 from rfl];have XC:Hid ((f.alloc (.cells #[aA 1,bA vc,aA ic,aA 0] 38)).heap[f.heap.size]? = some (.cells #[aA 1,bA vc,aA ic,aA 0] 38 (0,0))):=Zh (heap_alloc_new f _);have M:Hid (fA f (f.alloc (.cells #[aA 1,bA vc,aA ic,aA 0] 38))):=Zh (Zb _ _);go_upto_region 8 with fail;generalize f.alloc (.cells #[aA 1,bA vc,aA ic,aA 0] 38)=t at XC M|-;obtain⟨gC,Z⟩:=DA f.heap.size;have B8:=Zh (B7.trans (M.mono B7.size));have S8:=Zh (b.below S7 M);have J:=(M.block d (JA H)).trans H;have a1:=(M.block gB (JA I)).trans I;rw[Z] at XC|-;have a2:=XC.out;clear Z S7 B7 M H I;have a0:=iB 0 J;have a3:=iB 3 J;have b1:=iB 1 a1;have c0:=iB 0 a2;have qb:(FM.toList==[60,114,111,111,116,62,60,112,62,97,60,47,112,62,60,47,114,111,111,116,62])=true:=(by rw[ByteArray.toList_eq];rfl);have CL:=Zh (b.last t s F7 a.s.1 [] S8 FA);clear J a1 a2 XC a8 U;go_wp2_with fail;refine CL.mono ?_;rintro e w9 ⟨A9,n9,c9,ab,rfl,u,a4,_,b9⟩;have o9:=Dr u;obtain rfl:n9=0:=by rw[<-o9.1];have:=congrArg List.length a4;simpa using this
 have B9:=Zh (B8.trans (b9.mono B8.size));have CD:=Zh (b.doc w9 s F7 a.s.1 [] (b.below S8 b9) GB.1 (IA GB.2));clear u a4 b9 o9 CL S8 B8;go_wp2_with fail;refine CD.mono ?_;rintro e ac ⟨p,x,rfl,_,_,a5⟩;have aa:=Zh (B9.trans (a5.mono B9.size));clear a5 CD;go_wp2_with fail;go_ret;exact⟨by first|rfl|simp,aa⟩
end P21
namespace P22
open Go.RowKit Kd P4 P5 P21
end P22
namespace P22
open Go.RowKit Kd P4 P5 P16 P19 P20 P21
end P22
namespace P22
open Go.RowKit Kd P4 P5 P7 P16 P19 P20 P21
variable{Wo:World->Prop}{Se:World->Nat->(Nat->Prop)->D->List Rc->Prop}
def Sn(Se:World->Nat->(Nat->Prop)->D->List Rc->Prop)(w:World)(B s:Nat)(d:D)(l:List Rc):Prop:=∃F:Nat->Prop,Se w s F d l/\∀k,F k->B<=k
def Sx(Se:World->Nat->(Nat->Prop)->D->List Rc->Prop)(w:World)(B:Nat)(X:Nat->Prop)(s:Nat)(d:D)(l:List Rc):Prop:=∃F:Nat->Prop,Se w s F d l/\∀k,F k->B<=k/\¬X k
theorem Sn.sx(K:oI Wo Se){w w':World}{B s:Nat}{d:D}{l:List Rc}{X:Nat->Prop}(h:Sn Se w B s d l)(hb:fA w w')(hX:∀k,X k->w.heap.size<=k):Sx Se w' B X s d l:=by
 obtain⟨F,a,c⟩:=h;exact⟨F,K.below a hb,fun k b=>⟨c k b,fun e=>by have:=hX k e;have:=K.lt a b;omega⟩⟩
theorem Sx.below(K:oI Wo Se){w w':World}{B s:Nat}{d:D}{l:List Rc}{X Y:Nat->Prop}(h:Sx Se w B X s d l)(hb:fA w w')(hY:∀k,Y k->X k\/w.heap.size<=k):Sx Se w' B Y s d l:=by
 obtain⟨F,b,c⟩:=h;exact⟨F,K.below b hb,fun k a=>⟨(c k a).1,fun e=>by
  rcases hY k e with e|e
  ·exact(c k a).2 e
  ·have:=K.lt b a;omega⟩⟩
theorem Sx.sn{w:World}{B s:Nat}{d:D}{l:List Rc}{X:Nat->Prop}(h:Sx Se w B X s d l):Sn Se w B s d l:=by
 obtain⟨F,a,b⟩:=h;exact⟨F,a,fun k c=>(b k c).1⟩
structure xd(a:SV):Prop where
 t:a.txt.size<=100000
 b:a.bytes.length<=100000
 p:a.places.length<=1000000
theorem qS.sw{a:SV}(h:qS a):xd a:=⟨by have:=h.t;omega,by have:=h.b;omega,by have:=h.p;omega⟩
theorem Ur(K:oI Wo Se){w:World}{B s:Nat}{d:D}{l:List Rc}{X:Nat->Prop}(h:Sx Se w B X s d l)(hX:∀k,X k->k<w.heap.size)(hB:B<=w.heap.size)(hwo:Wo w)(hg:SC d)(hn:d.n<=80000)(a:SV)(sh:xd a)(ok:∀wz,iA (fun k=>B<=k/\¬X k) w wz->pK wz a):
 ∃F:Nat->Prop,(∀k,F k->B<=k/\¬X k)/\vC w F/\jA 9 #[lA s,.agg #[aA a.kind,aA a.id,aA a.n,bA a.txt,.slice a.sb.A a.sb.n a.sb.c,.slice a.sp.A a.sp.n a.sp.c]] w
  fun e w'=>e= .returned (.agg #[aA (NC d a.mF).code,bA (NC d a.mF).txt,aA (NC d a.mF).id,aA (((NC d a.mF).s.2.length:Nat):Int)])/\Sx Se w' B X s (NC d a.mF).s.1 (NC d a.mF).s.2/\iA F w w'/\Below B w w':=by
 obtain⟨F,j,c⟩:=h;have b:=ok w (iA.refl _ _);refine⟨F,c,K.QE j,?_⟩;refine(K.step w s F d l a.mF a.sb.A a.sb.n a.sb.c a.sp.A a.sp.n a.sp.c hwo j hg hn (by have:=sh.t;show a.txt.size<=_;omega) (fun w' g=>(ok w' (g.mono (fun i _ f=>c i f))).bh) b.bl b.bc b.bm b.bz (by have:=sh.b;have:=b.bl;omega)
  (fun w' g=>(ok w' (g.mono (fun i _ f=>c i f))).ph) b.pl b.pc b.pm b.pz (by have:=sh.p;have:=b.pl;omega)).mono ?_
 rintro e w' ⟨n,rfl,o,m,p⟩;refine⟨rfl,⟨n,o,fun k q=>?_⟩,m,m.eD (fun i _ f=>(c i f).1) hB⟩;rcases p k q with h|h
 ·exact c k h
 ·exact⟨by omega,fun e=>by have:=hX k e;omega⟩
theorem Hu(K:oI Wo Se){w:World}{B s:Nat}{d:D}{l:List Rc}{X:Nat->Prop}(h:Sx Se w B X s d l)(hg:SC d)(hn:d.n<=90000):
 jA 11 #[lA s] w fun e w'=>∃(p:Nat) (x:Dx),e= .returned (lA p)/\Dc w' w.heap.size p x/\x.d=d/\fA w w':=by
 obtain⟨F,a,_⟩:=h;exact K.doc w s F d l a hg hn
end P22
namespace P22
open Go.RowKit Kd P4 P5 P7 P11 P12 P16 P19 P20 P21
variable{Wo:World->Prop}{Se:World->Nat->(Nat->Prop)->D->List Rc->Prop}
def bH(w:World)(g:Nat)(c:Int)(t:qA)(i n:Int):Prop:=w.heap[g]? = some (.cells #[aA c,bA t,aA i,aA n] 38 (0,0))
section
variable{w w':World}{g C:Nat}{c i n:Int}{t:qA}
theorem bH.new(w:World)(c:Int)(t:qA)(i n:Int):bH (w.alloc (.cells #[aA c,bA t,aA i,aA n] 38)) w.heap.size c t i n:=heap_alloc_new w _
theorem bH.lt(h:bH w g c t i n):g<w.heap.size:=JA h
theorem bH.below(h:bH w g c t i n)(hb:Below C w w')(hC:g<C):bH w' g c t i n:=(hb.block g hC).trans h
theorem bH.c0(h:bH w g c t i n):w.cell? (cA g 0)=some (aA c):=cell_of_row w g 0 _ _ (0,0) h
theorem bH.c1(h:bH w g c t i n):w.cell? (cA g 1)=some (bA t):=cell_of_row w g 1 _ _ (0,0) h
theorem bH.c2(h:bH w g c t i n):w.cell? (cA g 2)=some (aA i):=cell_of_row w g 2 _ _ (0,0) h
theorem bH.c3(h:bH w g c t i n):w.cell? (cA g 3)=some (aA n):=cell_of_row w g 3 _ _ (0,0) h
end
end P22
namespace P21
open Go.RowKit Go.ChangeShapes Go.WideShapes Go.Deep Kd P4 P5
theorem Er:prog.cellsOf 33=1:=by kernel_rfl
theorem Gr:prog.cellsOf 34=1:=by kernel_rfl
theorem Hr:prog.cellsOf 36=6:=by kernel_rfl
theorem Za:prog.cellsOf 3=1:=by kernel_rfl
theorem Ir:prog.cellsOf 2=1:=by kernel_rfl
theorem Jr:prog.cellsOf 9=1:=by kernel_rfl
theorem Kr:prog.cellsOf 5=1:=by kernel_rfl
theorem Ij{H:Type}{enc:TypeId×Value->H}{w:World}{fuel:Nat}{cs:List Value}{x:DataW H×List MemPlace}(hx:DataW.trod enc prog w 0 (fun _=>true) true fuel 36 cs=some x)(hlen:cs.length=6):
 ∃a:SV,cs=kS.cs a/\pK w a:=by
 obtain⟨d,k,hk,D,_,b,p⟩:=DataW.trod_struct underlying36 hx
 match cs,hlen with
 |[v0,v1,v2,v3,v4,v5],_=>
  have q:=p 0 _ rfl;have r:=p 1 _ rfl;have s:=p 2 _ rfl;have t:=p 3 _ rfl;have u:=p 4 _ rfl;have v:=p 5 _ rfl;simp[Za,Ir,Jr,Er,Gr] at q r s t u v;have E:d[0]? = some (d[0]'(by rw[b];decide)):=List.getElem?_eq_getElem _;have F:d[1]? = some (d[1]'(by rw[b];decide)):=List.getElem?_eq_getElem _;have G:d[2]? = some (d[2]'(by rw[b];decide)):=List.getElem?_eq_getElem _;have I:d[3]? = some (d[3]'(by rw[b];decide)):=List.getElem?_eq_getElem _;have J:d[4]? = some (d[4]'(by rw[b];decide)):=List.getElem?_eq_getElem _;have K:d[5]? = some (d[5]'(by rw[b];decide)):=List.getElem?_eq_getElem _;rw[E] at q;rw[F] at r;rw[G] at s;rw[I] at t;rw[J] at u;rw[K] at v;obtain⟨L,f,_⟩:=DataW.trod_int underlying3 q;obtain⟨M,g,_⟩:=DataW.trod_int underlying3 r;obtain⟨N,i,_⟩:=DataW.trod_int underlying2 s;obtain⟨O,j,_,y⟩:=DataW.trod_string underlying9 t;obtain⟨A,n,c,l,m,P,Q,R,S,_,T⟩:=mU P12.kB (0:UInt8) (fun _=>True) Kr (fun fuel cs x hx _=>by
   obtain⟨z,rfl,_,B⟩:=DataW.trod_int underlying5 hx;simp[Lit.wf] at B;refine⟨UInt8.ofNat z.toNat,?_,trivial⟩;have h1:0<=z:=B.1;have h2:z<=255:=B.2;have C:z.toNat<256:=dA;have e:(((UInt8.ofNat z.toNat).toNat:Nat):Int)=z:=by
    rw[show(UInt8.ofNat z.toNat).toNat=z.toNat from UInt8.toNat_ofNat_of_lt' (by simpa using C)];omega
   show[Value.int .u8 z]=[Value.int .u8 (((UInt8.ofNat z.toNat).toNat:Nat):Int)];rw[e]) u
  obtain⟨U,V,W,X,o,Y,Z,d3,d4,_,d6⟩:=mU kI (0:Int) (fun _=>True) Za (fun fuel cs x hx _=>by
   obtain⟨z,rfl,_⟩:=DataW.trod_int underlying3 hx;exact⟨z,rfl,trivial⟩) v
  injection f with f _;injection g with g _;injection i with i _;injection j with j _;injection m with m _;injection o with o _;subst f;subst g;subst i;subst j;subst m;subst o;exact⟨⟨L,M,N,O,⟨A,n,c⟩,l,⟨U,V,W⟩,X⟩,rfl,⟨P,Q,R,S,T,Y,Z,d3,d4,d6,y⟩⟩
theorem my{H:Type}{enc:TypeId×Value->H}{w:World}{v:Value}{d:DataW H}{p:List MemPlace}{base:Nat}
 (hv:Value.okWide prog w .any base 22 v) (h:DataW.Trod enc prog w 0 (fun _=>true) true 22 v d p):
 ∃A n c l,v= .slice A n c/\l.length=n/\n<=c/\c<=maxLen/\(A=none->c=0)/\(∀a∈l,pK w a)/\kS.AA w w.heap.size A l:=by
 obtain⟨a,b,f,rfl⟩:=okWide_slice underlying22 hv;obtain⟨i,j⟩:=h;obtain⟨A,n,c,l,g,k,m,o,q,r,s⟩:=mU kS (⟨0,0,0,⟨#[]⟩,⟨none,0,0⟩,[],⟨none,0,0⟩,[]⟩:SV) (pK w) Hr (fun _ _ _ h t=>Ij h t) j;have e:Value.slice a b f= .slice A n c:=(by simpa[Value.cells] using g);exact⟨A,n,c,l,e,k,m,o,q,r,s⟩
end P21
end Go.Proofs.YtimfajmknmlajaaGreatDoor
