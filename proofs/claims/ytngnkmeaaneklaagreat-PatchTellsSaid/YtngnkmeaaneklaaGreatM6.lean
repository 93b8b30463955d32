/- A part of the proof. No condition. -/
import Derived.Maps.OwnSet
import Derived.Maps.OwnOps
import Derived.WideKeyEntry
import Derived.Test.YtngnkmeaaneklaaGreatM1
import Derived.Test.YtngnkmeaaneklaaGreatM3
set_option linter.unusedVariables false
set_option linter.unusedSimpArgs false
set_option maxRecDepth 100000
set_option maxHeartbeats 40000000
namespace Go.Proofs.YtngnkmeaaneklaaGreat
open Tryz
open Go.RowKit
theorem Zu(i d:Nat){P:Program}{ops:Array Oper}{Q:Exit->Act->World->Prop}{md:Region.Mode}{S:World->Prop}{oi:Oper}{v:Value}{fuel:Nat}{listed:Array Bool}{a:Act}{w:World}{L:Array Bool}{a':Act}
 (h:wpAnyH P md ops Q S fuel L a' w) (hr:(Region.ready md ops listed).contains i=true:=by decide +kernel) (hf:Region.free md ops listed i=true:=by decide +kernel) (hi:ops[i]? = some oi:=by rfl) (hd:oi.dst=some d:=by rfl) (hs:Region.noSelect ops=true:=by kernel_rfl)
 (hQ:∀c a w,Q (.panic c) (a.put (some d) v) w->Q (.panic c) a w:=by exact fun _ _ _ h=>h) (hy:YieldsIf P ops S oi v a:=by exact Or.inl ⟨by rfl,by intro w' hSw;(try dsimp only at hSw);go_simp;try with_reducible rfl⟩) (hS:S w:=by assumption) (eL:listed.setIfInBounds i true=L:=by(try simp only[Zs]);rfl) (ea:a.put (some d) v=a':=by(try simp only[Zs]);rfl):wpAnyH P md ops Q S (fuel+1) listed a w:=
 wpAnyH_take hi hs hf hr (by rw[hd];exact hQ) hy hS (by rw[hd,eL,ea];exact h)
theorem Zv(i:Nat){P:Program}{ops:Array Oper}{Q:Exit->Act->World->Prop}{md:Region.Mode}{S:World->Prop}{oi:Oper}{v:Value}{fuel:Nat}{listed:Array Bool}{a:Act}{w:World}{L:Array Bool}{a':Act}
 (h:wpAnyH P md ops Q S fuel L a' w) (hr:(Region.ready md ops listed).contains i=true:=by decide +kernel) (hf:Region.free md ops listed i=true:=by decide +kernel) (hi:ops[i]? = some oi:=by rfl) (hs:Region.noSelect ops=true:=by kernel_rfl)
 (hQ:∀c a w,Q (.panic c) (a.put oi.dst v) w->Q (.panic c) a w:=by exact fun _ _ _ h=>h) (hy:YieldsIf P ops S oi v a:=by exact Or.inl ⟨by rfl,by intro w' hSw;(try dsimp only at hSw);go_simp;try with_reducible rfl⟩) (hS:S w:=by assumption) (eL:listed.setIfInBounds i true=L:=by(try simp only[Zs]);rfl) (ea:a.put oi.dst v=a':=by(try simp only[Zs]);rfl):wpAnyH P md ops Q S (fuel+1) listed a w:=
 wpAnyH_take hi hs hf hr hQ hy hS (by rw[eL,ea];exact h)
theorem Zj(i d:Nat){P:Program}{ops:Array Oper}{Q:Exit->Act->World->Prop}{md:Region.Mode}{S:World->Prop}{oi:Oper}{fuel:Nat}{listed:Array Bool}{a:Act}{w:World}{L:Array Bool}{a':Act}
 (h:wpAnyH P md ops Q S fuel L a' w) (hr:(Region.ready md ops listed).contains i=true:=by decide +kernel) (hf:Region.free md ops listed i=true:=by decide +kernel) (hi:ops[i]? = some oi:=by rfl) (hd:oi.dst=some d:=by rfl) (hs:Region.noSelect ops=true:=by kernel_rfl)
 (hQ:∀c a w,Q (.panic c) (a.put (some d) undef) w->Q (.panic c) a w:=by exact fun _ _ _ h=>h) (hy:YieldsIf P ops S oi undef a:=by exact Or.inr ⟨by rfl,rfl⟩) (hS:S w:=by assumption) (eL:listed.setIfInBounds i true=L:=by(try simp only[Zs]);rfl) (ea:a.put (some d) undef=a':=by(try simp only[Zs]);rfl):wpAnyH P md ops Q S (fuel+1) listed a w:=
 wpAnyH_take hi hs hf hr (by rw[hd];exact hQ) hy hS (by rw[hd,eL,ea];exact h)
theorem Zq(rs:List Nat){P:Program}{ops:Array Oper}{Q:Exit->Act->World->Prop}{md:Region.Mode}{S:World->Prop}{fuel:Nat}{listed:Array Bool}{a:Act}{w:World}(h:AllReadyH P md ops Q S fuel listed a w rs)(hr:Region.ready md ops listed=rs:=by decide +kernel)(hne:rs≠[]:=by simp):wpAnyH P md ops Q S (fuel+1) listed a w:=wpAnyH_ready hr hne h
namespace P19
open P5
abbrev Sg:=D×List Rc
def GA(s:Sg)(r:Rc):Sg:=((VA s.1 r).2,if(VA s.1 r).1=0 then s.2++[r] else s.2)
def aB(left:List Int)(beh:Int):Int:=match left with
 |[]=>beh
 |i:: _=>i
def e0:wA:=⟨#[]⟩
def vB(i p b:Int):Rc:=⟨2,i,p,b,e0,e0,e0,[]⟩
def FE(i:Int):Rc:=⟨3,i,0,0,e0,e0,e0,[]⟩
def rC(i:Int)(a:List P3.At):Rc:=⟨4,i,0,0,e0,e0,e0,a⟩
def eE(i:Int)(t:wA):Rc:=⟨5,i,0,0,e0,t,e0,[]⟩
def jB(i:Int)(tag txt key:wA):Rc:=⟨1,i,0,0,tag,txt,key,[]⟩
def tD(par b:Int)(l:List Int)(s:Sg):Sg:=l.foldl (fun s i=>GA s (vB i par b)) s
def xD(l:List Int)(s:Sg):Sg:=l.foldl (fun s i=>GA s (FE i)) s
def UB(s:Sg)(par:Int)(left:List Int)(beh id:Int)(k:Nat):Sg×List Int:=
 (if k=0 then s
  else if inside s.1.l s.1.foc id=false then GA s (vB id par (aB left 0))
  else tD par (aB (left.drop (k+1)) beh) (left.take k) s,left.take k++left.drop (k+1))
theorem fE{s:Sg}(h:WF s.1)(r:Rc):WF (GA s r).1:=bK h r
theorem GM(d:D)(r:Rc):(VA d r).2.n<=d.n+1/\d.n<=(VA d r).2.n:=by
 unfold VA;split
 ·unfold jD;split
  ·simp;omega
  ·split
   ·simp;omega
   ·exact⟨Int.le_refl _,by simp;omega⟩
 split
 ·unfold oD;split<;>simp<;>omega
 split
 ·unfold OD;split
  ·simp;omega
  ·split<;>simp<;>omega
 split
 ·unfold fD;split
  ·simp;omega
  split
  ·simp;omega
  split<;>simp<;>omega
 split
 ·unfold GD;split
  ·simp;omega
  split
  ·simp;omega
  split<;>simp<;>omega
 ·simp;omega
theorem NZ{d:D}{r:Rc}(h:r.op≠1):(VA d r).2.n=d.n:=by
 unfold VA;rw[if_neg h];split
 ·unfold oD;split<;>rfl
 split
 ·unfold OD;split
  ·rfl
  ·split<;>rfl
 split
 ·unfold fD;split
  ·rfl
  split
  ·rfl
  split<;>rfl
 split
 ·unfold GD;split
  ·rfl
  split
  ·rfl
  split<;>rfl
 ·rfl
theorem IM(par b:Int):∀(l:List Int) {s:Sg},WF s.1->WF (tD par b l s).1/\(tD par b l s).1.n=s.1.n/\(tD par b l s).2.length<=s.2.length+l.length
 |[],_,h=>⟨h,rfl,by simp[tD]⟩
 |i:: l,s,h=>by
  have h1:=fE h (vB i par b);obtain⟨h2,h3,h4⟩:=IM par b l h1;refine⟨h2,h3.trans (NZ (r:=vB i par b) (show(2:Int)≠1 by decide)),?_⟩;show(tD par b l (GA s (vB i par b))).2.length<=_;have h5:(GA s (vB i par b)).2.length<=s.2.length+1:=(by unfold GA;simp only;split<;>simp);simp only[List.length_cons];omega
theorem fT(par b:Int)(l:List Int)(i:Int)(s:Sg):tD par b (l++[i]) s=GA (tD par b l s) (vB i par b):=by
 unfold tD;rw[List.foldl_append];rfl
end P19
namespace P3
open Go.RowKit
theorem gV:(prog.info? 119).map (fun i=>(i.zero,i.size,i.bytes))=some (some (.agg #[tA,tA,.bool false]),3,40):=by kernel_rfl
def jF(l:List At):List Value:=l.flatMap fun a=>[bA a.nm,bA a.vl,.bool a.st]
theorem GS(l:List At):(jF l).length=l.length*3:=by
 induction l with
 |nil=>rfl
 |cons a l ih=>simp only[jF,List.flatMap_cons,List.length_append,List.length_cons,List.length_nil] at ih|-;omega
theorem Xc(l m:List At):jF (l++m)=jF l++jF m:=by simp[jF]
theorem Xd(l:List At)(k:Nat):jF (l.take k)=(jF l).take (k*3):=by
 induction l generalizing k with
 |nil=>simp[jF]
 |cons a l ih=>
  cases k with
  |zero=>simp[jF]
  |succ k=>
   have:=ih k;rw[show(k+1)*3=k*3+3 by omega];simp only[List.take_succ_cons,jF,List.flatMap_cons] at this|-;rw[this];simp
theorem OY(l:List At)(k:Nat)(h:k<l.length):(jF l)[k*3]? = some (bA l[k].nm)/\(jF l)[k*3+1]? = some (bA l[k].vl)/\(jF l)[k*3+2]? = some (.bool l[k].st):=by
 induction l generalizing k with
 |nil=>simp at h
 |cons a l ih=>
  cases k with
  |zero=>simp[jF]
  |succ k=>
   have:=ih k (by simpa using h);rw[show(k+1)*3=k*3+3 by omega];simp only[jF,List.flatMap_cons,List.cons_append,List.nil_append,List.getElem_cons_succ] at this|-;simpa using this
theorem Hf(l:List At):∀u∈jF l,u.oneCell'=true:=by
 intro u b;simp only[jF,List.mem_flatMap] at b;obtain⟨a,_,c⟩:=b;simp only[List.mem_cons,List.not_mem_nil,or_false] at c;rcases c with rfl|rfl|rfl<;>rfl
def Own(w:World)(base:Nat)(v:Value)(l:List At):Prop:=w.ownsRow base 119 3 v l.length (jF l)
section
variable{w w':World}{base:Nat}{v:Value}{l:List At}
theorem Own.nil(w:World)(base:Nat):Own w base (vA) []:=World.ownsRow_nil w base 119 3
theorem Own.alloc(h:Own w base v l)(o:Obj):Own (w.alloc o) base v l:=World.ownsRow.alloc h o
theorem Own.below{B:Nat}(h:Own w base v l)(hb:Below B w w')(hB:w.heap.size<=B):Own w' base v l:=by
 obtain⟨c,b⟩:=h;refine⟨c,?_⟩;rcases b with b|⟨g,cap,cur,hv,hg,hh,r⟩
 ·exact .inl b
 ·have a:g<w.heap.size:=by
   rcases Nat.lt_or_ge g w.heap.size with a|hge
   ·exact a
   ·rw[Array.getElem?_eq_none hge] at hh;cases hh
  exact .inr ⟨g,cap,cur,hv,hg,(hb.block g cA).trans hh,r⟩
theorem Own.slice(h:Own w base v l):∃A n c,v= .slice A n c/\l.length=n/\n<=c/\c<=maxLen/\(A=Option.none->c=0)/\(∀b o,A=some ⟨b,o,Option.none⟩->base<=b/\b<w.heap.size)/\pA w w.heap.size A l:=by
 obtain⟨r,i⟩:=h;rcases i with⟨rfl,hn⟩|⟨g,cap,cur,rfl,hg,hh,zC,cC,hcs,ht⟩
 ·refine⟨Option.none,0,0,rfl,hn,by omega,by unfold maxLen;omega,fun _=>rfl,fun _ _ e=>(by cases e),fun k f=>absurd f cA⟩
 ·have a:g<w.heap.size:=by
   rcases Nat.lt_or_ge g w.heap.size with a|hge
   ·exact a
   ·rw[Array.getElem?_eq_none hge] at hh;cases hh
  refine⟨_,l.length,cap,rfl,rfl,zC,cC,fun e=>(by cases e),fun b o e=>(by injection e with e;injection e with e1;subst e1;exact⟨hg,a⟩),fun k f=>⟨g,0,rfl,a,?_⟩⟩
  ·have key:∀(j:Nat) (u:Value),(jF l)[j]? = some u->w.cell? (dA g j)=some u:=by
    intro j u d;rw[cell_of_row w g j _ _ _ hh,<-Array.getElem?_toList];rw[<-ht,List.getElem?_take] at d;split at d
    ·exact d
    ·cases d
   obtain⟨m,p,q⟩:=OY l k f;rw[Nat.zero_add];exact⟨key _ _ m,key _ _ p,key _ _ q⟩
theorem Own.cut{A:jA}{n c k:Nat}(h:Own w base (.slice A n c) l)(hk:k<=l.length):Own w base (.slice A k c) (l.take k):=by
 obtain⟨d,a⟩:=h;have b:(l.take k).length=k:=(by rw[List.length_take];omega);refine⟨GS _,?_⟩;rw[b];rcases a with⟨hv,hn⟩|⟨g,cap,cur,hv,hg,hh,zC,cC,hcs,ht⟩
 ·simp only[Value.slice.injEq] at hv;obtain⟨rfl,rfl,rfl⟩:=hv;have:k=0:=cA;subst this;exact .inl ⟨rfl,rfl⟩
 ·simp only[Value.slice.injEq] at hv;obtain⟨rfl,rfl,rfl⟩:=hv;refine .inr ⟨g,c,cur,rfl,hg,hh,by omega,cC,hcs,?_⟩;rw[Xd,<-ht,List.take_take];congr 1;have:=Nat.mul_le_mul_right 3 hk;omega
end
theorem iC{ops:Array Oper}{rest:List Oper}{o:Oper}{a:Act}{Q:Exit->Act->World->Prop}(hgd:o.guard=none)(s x:Operand)
 (ho:o.op= .call {callee:=.builtin .append,args:=#[s,x],argTypes:=#[50,50]})
 {w:World} {base B n c:Nat} {v:Value} {l m:List At} {A:jA} (hs:a.eval s=v) (hown:Own w base v l) (hx:a.eval x= .slice A n c) (hn:m.length=n) (hc:A=none->c=0) (hm:pA w B A m)
 (hl:l.length+n<=10000000) (hbase:base<=w.heap.size)
 (h:∀v' w',Own w' base v' (l++m)->w.grownBy w' v.ownBlock->(v'.ownBlock=v.ownBlock\/v'.ownBlock=some w.heap.size)->wpList prog ops Q rest (a.put o.dst v') w'):wpList prog ops Q (o:: rest) a w:=by
 obtain⟨z,C,k,p,q⟩:=info_parts gV;cases A with
 |none=>
  have t:m=[]:=by
   cases m with
   |nil=>rfl
   |cons b r=>obtain⟨b,o,f,_⟩:=hm 0 DA;cases f
  subst t;subst hn;rw[hc rfl] at hx;refine wpList_append_own_none hgd s x 50 ho base 119 z 3 underlying50 C v _ _ hs hown hx ?_;exact h v w (by simpa using hown) (World.grownBy.refl _ _) (.inl rfl)
 |some ad=>
  subst hn;refine wpList_append_own_at w hgd s x 50 ho base 119 z _ 3 40 underlying50 C k p q rfl nA v _ _ hs hown ad m.length c (jF m) hx (GS m) ?_ (Hf m) wD cA hbase ?_
  ·intro j u i;have H:j<m.length*3:=by
    rw[<-GS];exact(List.getElem?_eq_some_iff.1 i).1
   obtain⟨b,o,f,I,D,J,K⟩:=hm (j/3) cA;obtain⟨E,F,G⟩:=OY m (j/3) cA;injection f with f;subst f;have g:(⟨b,o,Option.none⟩:Addr).add j=⟨b,o+j,Option.none⟩:=by
    unfold Addr.add;split
    ·rename_i e;subst e;rfl
    ·rfl
   rw[g];have L:j=j/3*3\/j=j/3*3+1\/j=j/3*3+2:=cA;rcases L with e|e|e
   ·rw[<-e] at E D;rw[D,<-E,i]
   ·rw[<-e] at F;rw[show o+j=o+j/3*3+1 by omega,J,<-F,i]
   ·rw[<-e] at G;rw[show o+j=o+j/3*3+2 by omega,K,<-G,i]
  ·intro v' w' d M _ y;refine h v' w' ?_ M y;unfold Own;rw[List.length_append,Xc];exact d
def aN(w:World)(l:List At)(e:Ending)(w':World):Prop:=∃v,e= .returned v/\Own w' w.heap.size v l/\eA w w'
theorem IP(l:List At)(A:jA)(n c:Nat)(s:Bool)(w:World)(hn:l.length=n)(hl:n<=1000000)(H:pA w w.heap.size A l):
 fA 181 #[.slice A n c,.bool s] w (aN w (YA l s)):=by
 have t:=Zh H;have d:=Zh hn;clear H hn;go_enter func181,ntmps181;go_wp2_with fail;go_loopw [5,10] (fun v i wr=>∃k:Nat,k<=n/\i = aA k/\Hid (eA w wr)/\Hid (Own wr w.heap.size v (YA (l.take k) s))) (fun _ i _=>n-(intOf i).toNat)
 case atStart=>exact⟨0,by omega,rfl,Zh Ze,Zh (Own.nil _ _)⟩
 case round=>
  obtain⟨k,B,rfl,p,q⟩:=hrel;have C:w.heap.size<=wr.heap.size:=p.size;by_cases u:k<n
  ·have a:k<l.length:=(uA d.out);obtain⟨b,o,rfl,D,E,F,G⟩:=(t.below p Zl) k a;cases hs:(l[k].st==s)
   ·have r:=Zh hs;go_wp2_with fail;go_roundw
    case rel=>exact⟨k+1,by omega,by go_num,Zh (p.alloc cA _),Zh (by rw[yN a r.out];exact q.alloc _)⟩
    case measure=>simp[intOf];omega
   ·have r:=Zh hs;have x:=rN l s k;have y:l.length<=1000000:=(uA d.out);go_wp2_with (at_builtin;refine iC rfl _ _ rfl (v:=u5) (l:=YA (l.take k) s) (m:=[l[k]]) (base:=w.heap.size) rfl ((q.alloc _).alloc _) rfl rfl RB (pA.one (XC.YD _ _ _)) AA AA ?_;intro I J f g _);go_roundw
    case rel=>exact⟨k+1,by omega,by go_num,Zh (((p.alloc cA _).alloc AA _).grown g AA (fun j z=>(World.ownsRow.lt q j z).1)),Zh (by rw[gM a r.out];exact f)⟩
    case measure=>simp[intOf];omega
  ·obtain rfl:k=n:=cA
   go_wp2_with fail;go_ret;exact⟨_,rfl,by rw[kP d.out] at q;exact q,p⟩
theorem jL(l:List At)(A:jA)(n c:Nat)(w:World)(hn:l.length=n)(hl:n<=1000000)(H:pA w w.heap.size A l):
 fA 161 #[.slice A n c] w (aN w (pC l)):=by
 have u:=Zh H;have a:=Zh hn;clear H hn;go_enter func161,ntmps161;go_wp2_with fail;refine(IP l A n c true _ a hl u).mono ?_;rintro e N ⟨E,rfl,x,y⟩;have F:=Zh x;have k:=Zh y;clear x y;go_wp2_with fail;refine(IP l A n c false _ a hl (u.on k)).mono ?_;rintro e G ⟨O,rfl,z,o⟩;obtain⟨P,I,Q,rfl,f,p,q,g,r,B⟩:=z.slice;have i:=Zh (F.below o Zl);have C:=Zh (k.trans (o.mono k.size));have s:=Zh f;have t:=Zh g;have J:=Zh B;have K:I<=1000000:=(by have:=zK l false;have:=a.out;omega);have L:(YA l true).length<=1000000:=(by have:=zK l true;have:=a.out;omega);clear z o f g r B q p;have D:w.heap.size<=G.heap.size:=C.size;go_wp2_with (at_builtin;refine iC rfl _ _ rfl (v:=E) (l:=YA l true) (m:=YA l false) (base:=w.heap.size) rfl i rfl s t J cA D ?_;intro R S b d _);go_ret;exact⟨_,rfl,b,C.grown d D (fun j M=>(World.ownsRow.lt i j M).1)⟩
def gE(v:Value)(A:jA):Prop:=∀b o,A=some (dA b o)->some b≠v.ownBlock
theorem Yd{w w':World}{o:Obj}{A:jA}{l:List At}{v:Value}(h:pA w w.heap.size A l)(ha:gE v A)(hg:(w.alloc o).grownBy w' v.ownBlock):pA w' w'.heap.size A l:=by
 have a:=h.on (Ze.alloc Zl o);exact(a.grown hg Zl ha).more hg.size
theorem Jf{w:World}{o:Obj}{A:jA}{l:List At}{v v':Value}{k:Nat}(h:pA w w.heap.size A l)(hk:k<l.length)(ha:gE v A)(hat:v'.ownBlock=v.ownBlock\/v'.ownBlock=some (w.alloc o).heap.size):gE v' A:=by
 intro b c d;obtain⟨i,j,a,f,_⟩:=h k hk;rcases hat with e|e
 ·rw[e];exact ha b c d
 ·rw[e];intro g;rw[d] at a;injection a with e1;injection e1 with e2 _;injection g with e3;have:(w.alloc o).heap.size=w.heap.size+1:=DA;omega
theorem JN{W:World}{base n5 c5 r:Nat}{A5:jA}{L J:List At}(h:Own W base (.slice A5 n5 c5) L)(hn:L.length=n5)(hr:r=min n5 8)(hJ:J=L.take 8):Own W base (.slice A5 r c5) J:=by
 subst hr;subst hJ;have:=h.cut (k:=min n5 8) cA;have e:L.take (min n5 8)=L.take 8:=by
  subst hn;by_cases a:L.length<=8
  ·rw[Nat.min_eq_left a,List.take_of_length_le Zl,List.take_of_length_le a]
  ·rw[Nat.min_eq_right cA]
 rwa[e] at this
theorem Jh{l m:List At}{k n5:Nat}(hn:(yB (YA l true) ((YA m false).take k)).length=n5)(h8:8<=n5):aC l m=(yB (YA l true) ((YA m false).take k)).take 8:=
 jg cA
theorem V1{l m:List At}{k:Nat}(hn:(YA m false).length=k):aC l m=(yB (YA l true) ((YA m false).take k)).take 8:=by
 subst hn;simp[aC]
theorem ml(l m:List At)(A B:jA)(n n' c d:Nat)(w:World)(hn:l.length=n)(hn':m.length=n')(hl:n<=1000000)(hm:n'<=1000000)(H:pA w w.heap.size A l)(H2:pA w w.heap.size B m):
 fA 179 #[.slice A n c,.slice B n' d] w (aN w (aC l m)):=by
 have HH:=Zh H;have K:=Zh H2;have HN:=Zh hn;have z:=Zh hn';clear H H2 hn hn';go_enter func179,ntmps179;go_wp2_with fail;refine(IP l A n c true _ HN hl HH).mono ?_;rintro e w1 ⟨v1,rfl,o1,b1⟩;have O1:=Zh o1;have L:=Zh b1;clear o1 b1;go_wp2_with fail;refine(IP m B n' d false _ z hm (K.on L)).mono ?_;rintro e w2 ⟨v2,rfl,o2,M⟩;obtain⟨N,n2,c2,rfl,C,O,P,Q,D,R⟩:=o2.slice;have S:=Zh (O1.below M Zl);have AP:Hid (gE v1 N):=Zh (fun b o hA e=>by
  have e1:=(World.ownsRow.lt O1 b e.symm).2;have e2:=(D b o hA).1;omega)
 have B2:=Zh (L.trans (M.mono L.size));have p:=Zh C;have H2:=Zh R;have a1:n2<=1000000:=(by have:=zK m false;have:=z.out;omega);have a2:(YA l true).length<=1000000:=(by have:=zK l true;have:=HN.out;omega);clear o2 M C Q D R P O;have hB:w.heap.size<=w2.heap.size:=B2.size;go_wp2_with fail;go_loopw [5,13] (fun v i wr=>∃k:Nat,k<=n2/\i = aA k/\Hid (eA w wr)/\Hid (Own wr w.heap.size v (yB (YA l true) ((YA m false).take k)))/\Hid (pA wr wr.heap.size N (YA m false))/\Hid (gE v N)) (fun _ i _=>n2-(intOf i).toNat)
 case atStart=>exact⟨0,by omega,rfl,B2,S,H2,AP⟩
 case round=>
  obtain⟨k,hk,rfl,x,y,r,s⟩:=hrel;have T:w.heap.size<=wr.heap.size:=x.size;obtain⟨U,t,V,rfl,E,a3,W,X,F,h5⟩:=y.slice;have a:=Zh E;have a4:t<=2000000:=(by have:=Uc (YA l true) (YA m false) k;have:=p.out;omega);have a5:=Zh F;have H5:=Zh h5;unfold maxLen at W;clear E X F h5;by_cases a6:k<n2
  ·have f:k<(YA m false).length:=(uA p.out);obtain⟨b,o,rfl,hb,h0,h1,R⟩:=r k f;by_cases h8:8<=t
   ·go_wp2_with fail
    all_goals
     go_ret;exact⟨_,rfl,JN (y.alloc _) a cA (Jh a h8),x.alloc T _⟩
   ·have a7:t<8:=cA;cases hh:nD (yB (YA l true) ((YA m false).take k)) (YA m false)[k].nm
    ·have G:=Zh hh;clear hh;go_wp2_with fail;refine(xC (yB (YA l true) ((YA m false).take k)) U t V _ _ G a cA (H5.on (Zb _ _))).mono ?_;rintro e Y ⟨rfl,I⟩;have q:=Zh I;clear I;have B0:=Zh ((Below.refl wr.heap.size wr).alloc Zl (.cells #[bA (YA m false)[k].nm,bA (YA m false)[k].vl,.bool (YA m false)[k].st] 119));have J:=Zh ((XC.new wr (YA m false)[k]).below q DA);have c0:=J.c0;have c1:=J.c1;have c2:=J.c2;have a8:wr.heap.size<Y.heap.size:=J.lt;have O3:=Zh ((y.alloc (.cells #[bA (YA m false)[k].nm,bA (YA m false)[k].vl,.bool (YA m false)[k].st] 119)).below q Zl);have A3:=Zh ((r.on B0).on q);have W3:=Zh ((x.alloc T _).trans (q.mono AA));have Z:w.heap.size<=Y.heap.size:=W3.size;go_wp2_with (at_builtin;refine iC rfl _ _ rfl (v:=.slice U t V) (l:=yB (YA l true) ((YA m false).take k)) (m:=[(YA m false)[k]]) (base:=w.heap.size) rfl (O3.alloc _) rfl rfl RB (pA.one (XC.new _ _)) (by have:=a.out;simp;omega) AA ?_;intro v' w4 u g a0);go_roundw
     case rel=>exact⟨k+1,by omega,by go_num,Zh ((W3.alloc Z _).grown g AA (fun j hj=>(World.ownsRow.lt O3 j hj).1)),Zh (by rw[Mc f G.out];exact u),Zh (Yd A3 s g),Zh (Jf A3 f s a0)⟩
     case measure=>simp[intOf];omega
    ·have G:=Zh hh;clear hh;go_wp2_with fail;refine(xC (yB (YA l true) ((YA m false).take k)) U t V _ _ G a cA (H5.on (Zb _ _))).mono ?_;rintro e Y ⟨rfl,I⟩;have q:=Zh I;clear I;go_wp2_with fail;go_roundw
     case rel=>exact⟨k+1,by omega,by go_num,Zh ((x.alloc T _).trans (q.mono AA)),Zh (by rw[Lc f G.out];exact(y.alloc _).below q Zl),Zh ((r.on (Zb _ _)).on q),s⟩
     case measure=>simp[intOf];omega
  ·obtain rfl:k=n2:=cA
   by_cases h8:t<=8
   ·go_wp2_with fail
    all_goals
     go_ret;exact⟨_,rfl,JN y a cA (V1 p),x⟩
   ·go_wp2_with fail
    all_goals
     go_ret;exact⟨_,rfl,JN y a cA (V1 p),x⟩
theorem xh(l m:List At)(A B:jA)(n n' c d:Nat)(w:World)(hn:l.length=n)(hn':m.length=n')(hl:n<=1000000)(hm:n'<=1000000)(H:pA w w.heap.size A l)(H2:pA w w.heap.size B m):
 fA 189 #[.slice A n c,.slice B n' d] w fun e w'=>e= .returned (.bool (zD l m))/\eA w w':=by
 have u:=Zh H;have r:=Zh H2;have s:=Zh hn;have j:=Zh hn';clear H H2 hn hn';by_cases a:n=n'
 ·subst a;go_enter func189,ntmps189;go_wp2_with fail;go_loopw [13] (fun i wr=>∃k:Nat,k<=n/\i = aA k/\Hid (eA w wr)/\Hid (pI l m k)) (fun i _=>n-(intOf i).toNat)
  case atStart=>exact⟨0,by omega,rfl,Zh Ze,Zh (pI.zero _ _)⟩
  case round=>
   obtain⟨k,F,rfl,q,t⟩:=hrel;by_cases v:k<n
   ·have f:k<l.length:=(uA s.out);have g:k<m.length:=(uA j.out);obtain⟨b,o,rfl,G,I,J,K⟩:=(u.below q Zl) k f;obtain⟨L,M,rfl,x,y,z,C⟩:=(r.below q Zl) k g;have N:=zc;cases hat:PF l[k] m[k]
    ·have D:=GQ hat;have p:=Zh hat;clear hat;go_wp2_with fail;go_quiet (fail);go_wp2_with fail;go_ret;exact⟨MB (FX f g p).symm,PA q _⟩
    ·have D:=GQ hat;have p:=Zh hat;clear hat;go_wp2_with fail;go_quiet (fail);go_wp2_with fail;go_roundw
     case rel=>exact⟨k+1,by omega,by go_num,Zh (PA q _),Zh (t.next f g p)⟩
     case measure=>simp[intOf];omega
   ·obtain rfl:k=n:=cA
    go_wp2_with fail;go_ret;exact⟨MB (t.all s j).symm,q⟩
 ·have O:((n:Int) != (n':Int))=true:=AA;have E:Hid (l.length≠m.length):=Zh (by rw[s.out,j.out];exact a);clear a;go_enter func189,ntmps189;go_wp2_with fail;go_ret;exact⟨MB (EX E).symm,Ze⟩
theorem UT(l m:List At)(A B:jA)(n n' c d:Nat)(w:World)(hn:l.length=n)(hn':m.length=n')(hl:n<=1000000)(hm:n'<=1000000)(H:pA w w.heap.size A l)(H2:pA w w.heap.size B m):
 fA 180 #[.slice A n c,.slice B n' d] w fun e w'=>e= .returned (.bool (zD l m))/\eA w w':=by
 have g:=Zh H;have a:=Zh H2;have i:=Zh hn;have b:=Zh hn';clear H H2 hn hn';go_enter func180,ntmps180;go_wp2_with fail;refine(xh l m A B n n' c d _ i b hl hm g a).mono ?_;rintro e k ⟨rfl,f⟩;have j:=Zh f;clear f;go_wp2_with fail;go_ret;exact⟨rfl,j⟩
theorem Ho(l m:List At)(A B:jA)(n n' c d:Nat)(w:World){r:Bool}(hr:zD l m=r)(hn:l.length=n)(hn':m.length=n')(hl:n<=1000000)(hm:n'<=1000000)(H:pA w w.heap.size A l)(H2:pA w w.heap.size B m):
 fA 180 #[.slice A n c,.slice B n' d] w fun e w'=>e= .returned (.bool r)/\eA w w':=by
 subst hr;exact UT l m A B n n' c d w hn hn' hl hm H H2
theorem VT(l:List At)(A:jA)(n c:Nat)(w:World)(hn:l.length=n)(hl:n<=1000000)(H:pA w w.heap.size A l):
 fA 67 #[.slice A n c] w (aN w (pC l)):=by
 have D:=Zh H;have s:=Zh hn;clear H hn;have F:l.length<=1000000:=(uA s.out);have G:=zK l true;go_enter func67,ntmps67;go_wp2_with fail;go_loopw [3,4] (fun v i wr=>∃k:Nat,k<=n/\i = aA k/\Hid (eA w wr)/\Hid (Own wr w.heap.size v (YA (l.take k) true))) (fun _ i _=>n-(intOf i).toNat)
 case atStart=>exact⟨0,by omega,rfl,Zh Ze,Zh (Own.nil _ _)⟩
 case round=>
  obtain⟨k,R,rfl,t,x⟩:=hrel;have I:w.heap.size<=wr.heap.size:=t.size;by_cases J:k<n
  ·have a:k<l.length:=(uA s.out);obtain⟨b,o,rfl,K,L,M,u⟩:=(D.below t Zl) k a;have y:=rN l true k;cases hs:l[k].st
   ·have q:Hid ((l[k].st==true)=false):=Zh (by rw[hs];rfl);rw[hs] at u;clear hs;go_wp2_with fail;go_roundw
    case rel=>exact⟨k+1,by omega,by go_num,t,Zh (by rw[yN a q.out];exact x)⟩
    case measure=>simp[intOf];omega
   ·have q:Hid ((l[k].st==true)=true):=Zh (by rw[hs];rfl);have z:=Zh hs;rw[hs] at u;clear hs;have r:XC (wr.alloc (.cells #[bA l[k].nm,bA l[k].vl,.bool true] 119)) wr.heap.size l[k]:=XC.sV wr z;go_wp2_with (at_builtin;refine iC rfl _ _ rfl (v:=u3) (l:=YA (l.take k) true) (m:=[l[k]]) (base:=w.heap.size) rfl (x.alloc _) rfl rfl RB (pA.one r) AA AA ?_;intro N O d f _);go_roundw
    case rel=>exact⟨k+1,by omega,by go_num,Zh ((t.alloc cA _).grown f AA (fun j E=>(World.ownsRow.lt x j E).1)),Zh (by rw[gM a q.out];exact d)⟩
    case measure=>simp[intOf];omega
  ·obtain rfl:k=n:=cA
   go_wp2_with fail;obtain⟨B,rfl⟩:∃B:World,B=wr:=⟨_,rfl⟩;have C:Hid (Own B w.heap.size u3 (YA l true)):=Zh (by have:=x.out;rwa[kP s.out] at this);go_loopw [3,5] (fun v i wr=>∃j:Nat,j<=k/\i = aA j/\Hid (eA w wr)/\Hid (Own wr w.heap.size v (YA l true++YA (l.take j) false))) (fun _ i _=>k-(intOf i).toNat)
   case atStart=>exact⟨0,by omega,rfl,t,Zh (by simpa[YA] using C.out)⟩
   case round=>
    obtain⟨j,E,rfl,g,p⟩:=hrel;have I:w.heap.size<=wr.heap.size:=g.size;by_cases P:j<k
    ·have a:j<l.length:=(uA s.out);obtain⟨b,o,rfl,K,L,M,u⟩:=(D.below g Zl) j a;have y:=rN l false j;cases hs:l[j].st
     ·have q:Hid ((l[j].st==false)=true):=Zh (by rw[hs];rfl);have z:=Zh hs;rw[hs] at u;clear hs;have r:XC (wr.alloc (.cells #[bA l[j].nm,bA l[j].vl,.bool false] 119)) wr.heap.size l[j]:=XC.sV wr z;go_wp2_with (at_builtin;refine iC rfl _ _ rfl (v:=u3) (l:=YA l true++YA (l.take j) false) (m:=[l[j]]) (base:=w.heap.size) rfl (p.alloc _) rfl rfl RB (pA.one r) AA AA ?_;intro N O d f _);go_roundw
      case rel=>exact⟨j+1,by omega,by go_num,Zh ((g.alloc cA _).grown f AA (fun i Q=>(World.ownsRow.lt p i Q).1)),Zh (by rw[gM a q.out,<-List.append_assoc];exact d)⟩
      case measure=>simp[intOf];omega
     ·have q:Hid ((l[j].st==false)=false):=Zh (by rw[hs];rfl);rw[hs] at u;clear hs;go_wp2_with fail;go_roundw
      case rel=>exact⟨j+1,by omega,by go_num,g,Zh (by rw[yN a q.out];exact p)⟩
      case measure=>simp[intOf];omega
    ·obtain rfl:j=k:=cA
     go_wp2_with fail;go_ret;exact⟨_,rfl,by have:=p.out;rwa[kP s.out] at this,g⟩
theorem PY{l m:List At}{n':Nat}(hn:m.length=n'):aC l m=(yB (YA l true) (YA (m.take n') false)).take 8:=by
 subst hn;simp[aC]
theorem Kh(l m:List At)(A B:jA)(n n' c d:Nat)(w:World)(hn:l.length=n)(hn':m.length=n')(hl:n<=1000000)(hm:n'<=1000000)(H:pA w w.heap.size A l)(H2:pA w w.heap.size B m):
 fA 68 #[.slice A n c,.slice B n' d] w (aN w (aC l m)):=by
 have HH:=Zh H;have J:=Zh H2;have U:=Zh hn;have z:=Zh hn';clear H H2 hn hn';have a2:l.length<=1000000:=(uA U.out);have a3:m.length<=1000000:=(uA z.out);have a4:=zK l true;go_enter func68,ntmps68;go_wp2_with fail;go_loopw [5,6] (fun v i wr=>∃k:Nat,k<=n/\i = aA k/\Hid (eA w wr)/\Hid (Own wr w.heap.size v (YA (l.take k) true))) (fun _ i _=>n-(intOf i).toNat)
 case atStart=>exact⟨0,by omega,rfl,Zh Ze,Zh (Own.nil _ _)⟩
 case round=>
  obtain⟨k,hk,rfl,K,S⟩:=hrel;have hz:w.heap.size<=wr.heap.size:=K.size;by_cases a5:k<n
  ·have a:k<l.length:=(uA U.out);obtain⟨b,o,rfl,hb,T,V,L⟩:=(HH.below K Zl) k a;have a6:=rN l true k;cases hs:l[k].st
   ·have W:Hid ((l[k].st==true)=false):=Zh (by rw[hs];rfl);rw[hs] at L;clear hs;go_wp2_with fail;go_roundw
    case rel=>exact⟨k+1,by omega,by go_num,K,Zh (by rw[yN a W.out];exact S)⟩
    case measure=>simp[intOf];omega
   ·have W:Hid ((l[k].st==true)=true):=Zh (by rw[hs];rfl);have M:=Zh hs;rw[hs] at L;clear hs;go_wp2_with (at_builtin;refine iC rfl _ _ rfl (v:=u5) (l:=YA (l.take k) true) (m:=[l[k]]) (base:=w.heap.size) rfl (S.alloc _) rfl rfl RB (pA.one (XC.sV wr M)) AA AA ?_;intro v' w1 g p _);go_roundw
    case rel=>exact⟨k+1,by omega,by go_num,Zh ((K.alloc cA _).grown p AA (fun j hj=>(World.ownsRow.lt S j hj).1)),Zh (by rw[gM a W.out];exact g)⟩
    case measure=>simp[intOf];omega
  ·obtain rfl:k=n:=cA
   go_wp2_with fail;obtain⟨X,rfl⟩:∃X:World,X=wr:=⟨_,rfl⟩;have Y:Hid (Own X w.heap.size u5 (YA l true)):=Zh (by have:=S.out;rwa[kP U.out] at this);go_loopw [5,7] (fun v i wr=>∃j:Nat,j<=n'/\i = aA j/\Hid (eA w wr)/\Hid (Own wr w.heap.size v (yB (YA l true) (YA (m.take j) false)))) (fun _ i _=>n'-(intOf i).toNat)
   case atStart=>exact⟨0,by omega,rfl,K,Zh (by simpa[YA,yB] using Y.out)⟩
   case round=>
    obtain⟨j,hj,rfl,t,C⟩:=hrel;have hz:w.heap.size<=wr.heap.size:=t.size;obtain⟨A5,n5,c5,rfl,N,a7,Z,a0,O,h5⟩:=C.slice;have x:=Zh N;have a8:n5<=2000000:=(uA (Ri (YA l true) m j));have H5:=Zh h5;unfold maxLen at Z;clear N a0 O h5;by_cases a9:j<n'
    ·have a:j<m.length:=(uA z.out);obtain⟨b,o,rfl,hb,T,V,L⟩:=(J.below t Zl) j a;go_wp2_with fail;obtain⟨I,rfl⟩:∃I:World,I=wr:=⟨_,rfl⟩;go_loopw [8,9] (fun u i wr=>∃(q:Nat) (r:Bool),q<=n5/\u= .bool r/\i = aA q/\Hid (r=(m[j].st || nD ((yB (YA l true) (YA (m.take j) false)).take q) m[j].nm))/\Hid (eA I wr)) (fun _ i _=>n5-(intOf i).toNat)
     case atStart=>exact⟨0,_,by omega,rfl,rfl,Zh (by simp[nD,vF]),Zh Ze⟩
     case round=>
      obtain⟨q,r,hq,rfl,rfl,HM,f⟩:=hrel;have aa:I.heap.size<=wr.heap.size:=f.size;by_cases ab:q<n5
      ·have P:q<(yB (YA l true) (YA (m.take j) false)).length:=(uA x.out);obtain⟨b5,o5,rfl,O,p0,p1,p2⟩:=(H5.below f Zl) q P;have g0:wr.cell? ⟨b,o+j*3,none⟩=some (bA m[j].nm):=(by rw[f.out.cell (by show b<I.heap.size;omega)];exact T);have y:=Oc (s:=m[j].nm) P;have D:=Zh y;clear y T V L p1 p2;cases r
       ·cases he:((yB (YA l true) (YA (m.take j) false))[q].nm.toList==m[j].nm.toList)
        ·have M:=Zh he;go_wp2_with fail;go_quiet (fail);go_wp2_with fail;go_roundw
         case rel=>exact⟨q+1,false,by omega,rfl,by go_num,Zh (by rw[D.out,M.out,Bool.or_false];exact HM),Zh (PA f _)⟩
         case measure=>simp[intOf];omega
        ·have M:=Zh he;go_wp2_with fail;go_quiet (fail);go_wp2_with fail;go_roundw
         case rel=>exact⟨q+1,true,by omega,rfl,by go_num,Zh (by rw[D.out,M.out];simp),Zh (PA f _)⟩
         case measure=>simp[intOf];omega
       ·go_wp2_with fail;go_quiet (fail);go_wp2_with fail;go_roundw
        case rel=>exact⟨q+1,true,by omega,rfl,by go_num,Zh (by rw[D.out,<-Bool.or_assoc,<-HM.out];rfl),Zh (PA f _)⟩
        case measure=>simp[intOf];omega
      ·obtain rfl:q=n5:=cA
       have Q:Hid (r=(m[j].st || nD (yB (YA l true) (YA (m.take j) false)) m[j].nm)):=Zh (by have:=HM.out;rwa[List.take_of_length_le (uA x.out)] at this);have E:=Zh (C.below f Zl);have F:=Zh (t.trans (f.mono hz));obtain⟨b',o',G,ac,g0,g1,g2⟩:=(J.below F Zl) j a;injection G with G;injection G with e1 e2;subst e1;subst e2;clear T V L;cases r
       ·have R:(yB (YA l true) (YA (m.take j) false)).length=q:=x;have a1:=Zh R;clear R;go_wp2_with (at_builtin;refine iC rfl _ _ rfl (v:=.slice A5 q c5) (l:=yB (YA l true) (YA (m.take j) false)) (m:=[m[j]]) (base:=w.heap.size) rfl (E.alloc _) rfl rfl RB (pA.one (XC.new _ _)) (by have:=a1.out;simp;omega) AA ?_;intro v' w1 g p _);go_roundw
        case rel=>exact⟨j+1,by omega,by go_num,Zh ((F.alloc cA _).grown p AA (fun i hi=>(World.ownsRow.lt E i hi).1)),Zh (by rw[um a Q.out];exact g)⟩
        case measure=>simp[intOf];omega
       ·go_wp2_with fail;go_roundw
        case rel=>exact⟨j+1,by omega,by go_num,F,Zh (by rw[Qi a Q.out];exact E)⟩
        case measure=>simp[intOf];omega
    ·obtain rfl:j=n':=cA
     by_cases h8:n5<=8
     ·go_wp2_with fail;go_ret;exact⟨_,rfl,JN C x cA (PY z),t⟩
     ·go_wp2_with fail;go_ret;exact⟨_,rfl,JN C x cA (PY z),t⟩
end P3
namespace P19
open P5
def In(l:List Nd)(p y:Int):Prop:=∃k,it (yA l) (k+1) y=p
def aF(d d':D)(p:Int):Prop:=∀y,lA d.l y=true->¬In d.l p y->lA d'.l y=true/\yA d'.l y=yA d.l y
theorem aF.refl(d:D)(p:Int):aF d d p:=fun _ h _=>⟨h,rfl⟩
theorem TU{l:List Nd}{p y:Int}(h:yA l y=p):In l p y:=⟨0,h⟩
theorem Eb{l:List Nd}{p y:Int}(h:In l p (yA l y)):In l p y:=by
 obtain⟨k,a⟩:=h;exact⟨k+1,a⟩
section
variable{d d' d2:D}{p:Int}
theorem PZ(hw:WF d)(hw':WF d')(h:aF d d' p){y:Int}(hy:lA d.l y=true)(hn:¬In d.l p y):
 ∀k,it (yA d'.l) k y=it (yA d.l) k y/\(it (yA d.l) k y=0\/lA d.l (it (yA d.l) k y)=true/\¬In d.l p (it (yA d.l) k y))
 |0=>⟨rfl,.inr ⟨hy,hn⟩⟩
 |k+1=>by
  obtain⟨e,hc⟩:=PZ hw hw' h hy hn k;rw[UF,UF,e];rcases hc with hc|⟨h1,h2⟩
  ·rw[hc,hw.tr.zero,hw'.tr.zero];exact⟨rfl,.inl rfl⟩
  ·refine⟨(h _ h1 h2).2,?_⟩;by_cases e0:yA d.l (it (yA d.l) k y)=0
   ·exact .inl e0
   ·exact .inr ⟨hw.tr.DH e0,fun hi=>h2 (Eb hi)⟩
theorem Qg(hw:WF d)(hw':WF d')(h:aF d d' p){y:Int}(hy:lA d.l y=true)(hn:¬In d.l p y):¬In d'.l p y:=by
 rintro⟨k,a⟩;rw[(PZ hw hw' h hy hn (k+1)).1] at a;exact hn ⟨k,a⟩
theorem aF.trans(hw:WF d)(hw':WF d')(h:aF d d' p)(h2:aF d' d2 p):aF d d2 p:=fun y a b=>by
 obtain⟨c,e⟩:=h y a b;obtain⟨f,g⟩:=h2 y c (Qg hw hw' h a b);exact⟨f,g.trans e⟩
theorem aF.up{i:Int}(hi:yA d.l i=p)(h:aF d d' i):aF d d' p:=fun y a b=>h y a fun⟨k,hk⟩=>b ⟨k+1,by rw[UF,hk];exact hi⟩
theorem UU{i j:Int}(hw:WF d)(hp:p≠0)(hi:yA d.l i=p)(hj:yA d.l j=p):¬In d.l i j:=by
 rintro⟨k,a⟩;have b:it (yA d.l) k p=i:=(by rw[<-hj];exact a);refine hw.tr.MK (x:=p) (j:=k) hp ?_;rw[UF,b];exact hi
theorem Pe(h1:∀y,lA d'.l y=lA d.l y)(h2:∀y,yA d'.l y=yA d.l y):aF d d' p:=fun y a _=>⟨(h1 y).trans a,h2 y⟩
theorem qP(d:D)(i:Int)(a:List P3.At):(∀y,lA (fD d i a).2.l y=lA d.l y)/\∀y,yA (fD d i a).2.l y=yA d.l y:=by
 unfold fD;split
 ·exact⟨fun _=>rfl,fun _=>rfl⟩
 split
 ·exact⟨fun _=>rfl,fun _=>rfl⟩
 split
 ·exact⟨fun _=>rfl,fun _=>rfl⟩
 ·refine⟨fun y=>bO d.l i (gH a) (fun _=>rfl) y,fun y=>?_⟩;show yA (iB d.l i (gH a)) y=_;rw[cO (f:=gH a) (fun _=>rfl) (g:=fun x=>x.par) (fun _=>rfl)];unfold yA;cases find d.l y<;>simp
theorem Rg(d:D)(i:Int)(t:wA):(∀y,lA (GD d i t).2.l y=lA d.l y)/\∀y,yA (GD d i t).2.l y=yA d.l y:=by
 unfold GD;split
 ·exact⟨fun _=>rfl,fun _=>rfl⟩
 split
 ·exact⟨fun _=>rfl,fun _=>rfl⟩
 split
 ·exact⟨fun _=>rfl,fun _=>rfl⟩
 ·refine⟨fun y=>bO d.l i (tH t) (fun _=>rfl) y,fun y=>?_⟩;show yA (iB d.l i (tH t)) y=_;rw[cO (f:=tH t) (fun _=>rfl) (g:=fun x=>x.par) (fun _=>rfl)];unfold yA;cases find d.l y<;>simp
theorem aQ(hw:WF d)(i b:Int):(∀y,lA (oD d i p b).2.l y=lA d.l y)/\∀y,y≠i->yA (oD d i p b).2.l y=yA d.l y:=by
 unfold oD;split
 ·rename_i h;have c:=JK h;refine⟨fun y=>pU y,fun y a=>?_⟩;show yA (OC d.l i p b) y=_;rw[nQ hw.tr c.hi,yE _ _ a,jI hw.tr,yE _ _ a]
 ·exact⟨fun _=>rfl,fun _ _=>rfl⟩
theorem lq(hw:WF d){i b:Int}(h:yA d.l i=p):yA (oD d i p b).2.l i=p:=by
 unfold oD;split
 ·rename_i hk;show yA (OC d.l i p b) i=_;rw[nQ hw.tr (JK hk).hi,rG]
 ·exact h
theorem Ug(hw:WF d){i b:Int}(h:yA d.l i=p):aF d (oD d i p b).2 p:=fun y c f=>by
 have a:y≠i:=fun e=>f (TU (by rw[e];exact h))
 obtain⟨g,j⟩:=aQ (p:=p) hw i b;exact⟨(g y).trans c,j y a⟩
theorem yS(hw:WF d){i y:Int}(hy:lA d.l y=true)(hne:y≠i)(hn:¬In d.l i y):lA (OD d i).2.l y=true/\yA (OD d i).2.l y=yA d.l y:=by
 unfold OD;split
 ·exact⟨hy,rfl⟩
 split
 ·exact⟨hy,rfl⟩
 ·rename_i f h1;have f:lA d.l i=true:=(by simpa using f);have b:=EI (i:=i) hw.tr;have g:y∉below (QA d.l i) i:=by
   intro m;obtain⟨j,k⟩:=b.WM _ _ _ m;rw[jI hw.tr] at k;have key:∀j (z:Int),z≠i->¬In d.l i z->it (lF (yA d.l) i 0) j z≠i:=by
    intro j
    induction j with
    |zero=>intro z c _ e;exact c e
    |succ j ih=>
     intro z c a e;have n:it (lF (yA d.l) i 0) j (yA d.l z)=i:=by
      have:lF (yA d.l) i 0 z=yA d.l z:=yE _ _ c;rw[<-this];exact e
     exact ih (yA d.l z) (fun o=>a (TU o)) (fun p=>a (Eb p)) n
   exact key j y hne hn k
  have q:lA (qE d.l i) y=true:=by
   unfold qE;rw[fO,eG];exact⟨hy,g⟩
  refine⟨q,?_⟩;show yA (qE d.l i) y=_;have:yA (qE d.l i) y=yA (QA d.l i) y:=by
   unfold qE yA;rw[rJ,if_neg g]
  rw[this,jI hw.tr,yE _ _ hne]
theorem eX(hw:WF d){i:Int}(h:yA d.l i=p):aF d (OD d i).2 p:=fun y b a=>
 yS hw b (fun e=>a (TU (by rw[e];exact h))) fun⟨k,hk⟩=>a ⟨k+1,by rw[UF,hk];exact h⟩
theorem fX(d:D)(r:Rc)(hw:WF d){y:Int}(hy:lA d.l y=true):lA (jD d r).2.l y=true/\yA (jD d r).2.l y=yA d.l y:=by
 unfold jD;split
 ·exact⟨hy,rfl⟩
 split
 ·exact⟨hy,rfl⟩
 ·rename_i h _;have f:r.id=d.n+1:=by
   by_cases e:r.id=d.n+1
   ·exact e
   ·exact absurd (.inl e) h
  have a:y≠(GC r.id r.tag r.txt r.key).id:=by
   show y≠r.id;have:=(hw.pos hy).2;omega
  have b:lA d.l (GC r.id r.tag r.txt r.key).id=false:=by
   show lA d.l r.id=false;rw[f];exact hw.next
  have c:=MN (x:=GC r.id r.tag r.txt r.key) b y;rw[if_neg a] at c;refine⟨?_,?_⟩
  ·show lA (d.l++[GC r.id r.tag r.txt r.key]) y=true;unfold lA at hy|-;rw[c];exact hy
  ·show yA (d.l++[GC r.id r.tag r.txt r.key]) y=yA d.l y;unfold yA;rw[c]
end
end P19
namespace P3
def Diff(a b:At):Prop:=a.nm.toList≠b.nm.toList
theorem Sj{laid m:List At}{a:At}(h:a∈yB laid m):a∈laid\/a∈m:=by
 induction m generalizing laid with
 |nil=>exact .inl h
 |cons b m ih=>
  simp only[yB] at h;split at h
  ·rcases ih h with h|h
   ·exact .inl h
   ·exact .inr (List.mem_cons_of_mem _ h)
  ·rcases ih h with h|h
   ·rcases List.mem_append.1 h with h|h
    ·exact .inl h
    ·exact .inr (by rw[List.mem_singleton] at h;subst h;exact List.mem_cons_self)
   ·exact .inr (List.mem_cons_of_mem _ h)
theorem Xg{laid m:List At}(h:laid.Pairwise Diff):(yB laid m).Pairwise Diff:=by
 induction m generalizing laid with
 |nil=>exact h
 |cons b m ih=>
  simp only[yB];split
  ·exact ih h
  ·rename_i hb;refine ih (List.pairwise_append.2 ⟨h,List.pairwise_singleton _ _,fun x hx y a=>?_⟩);rw[List.mem_singleton] at a;subst a;exact ZR.1 (by simpa using hb) x hx
theorem rY{l m:List At}{a:At}(h:a∈aC l m):a∈l\/a∈m:=by
 rcases Sj (List.mem_of_mem_take h) with h|h
 ·exact .inl (tN.1 h).1
 ·exact .inr (tN.1 h).1
theorem XZ{m:List At}{a:At}(h:a∈pC m):a∈m:=by
 rcases List.mem_append.1 h with h|h<;>exact(tN.1 h).1
theorem oS{l:List At}(s:Bool)(h:l.Pairwise Diff):(YA l s).Pairwise Diff:=h.sublist List.filter_sublist
theorem Tj{m:List At}(h:m.Pairwise Diff){a b:At}(ha:a∈m)(hb:b∈m)(hne:a.st≠b.st):Diff a b:=by
 obtain⟨i,c,rfl⟩:=List.getElem_of_mem ha;obtain⟨j,d,rfl⟩:=List.getElem_of_mem hb;rcases Nat.lt_trichotomy i j with hij|hij|hij
 ·exact List.pairwise_iff_getElem.1 h i j c d hij
 ·subst hij;exact absurd rfl hne
 ·exact fun e=>List.pairwise_iff_getElem.1 h j i d c hij e.symm
theorem Yg{m:List At}(h:m.Pairwise Diff):(pC m).Pairwise Diff:=by
 unfold pC;refine List.pairwise_append.2 ⟨oS _ h,oS _ h,fun a g b i=>?_⟩;obtain⟨c,d⟩:=tN.1 g;obtain⟨e,f⟩:=tN.1 i;exact Tj h c e (by rw[d,f];decide)
theorem FN{l m:List At}(hl:bC l=true)(hm:bC m=true):bC (aC l m)=true:=by
 obtain⟨_,b,c⟩:=oJ.1 hl;obtain⟨_,d,_⟩:=oJ.1 hm;refine oJ.2 ⟨VS l m,fun a e=>?_,?_⟩
 ·rcases rY e with h|h
  ·exact b a h
  ·exact d a h
 ·exact(Xg (oS true c)).sublist (List.take_sublist _ _)
theorem YZ{m:List At}(hm:bC m=true):bC (pC m)=true:=by
 obtain⟨b,c,d⟩:=oJ.1 hm;exact oJ.2 ⟨by rw[kZ];exact b,fun a e=>c a (XZ e),Yg d⟩
end P3
namespace Mv
open Go.RowKit Kd Go.ChangeMaps Go.MapKept
open Go.Maps (Keyed)
section
variable{P:Program}{w w':World}{k:TypeId}{b n s:Nat}{f:Lit->Option Value}
def RV(v:Value):Option (DataW Value×List MemPlace):=some (.held v,[])
def Kt:DataW Value->Value
 | .held v=>v
 |_=>undef
def ZG(D:DataW Value)(x:Lit):Option Value:=if Maps.has D x then some (Kt (D.atKey x .nil)) else none
theorem Ll(D:DataW Value)(x:Lit):Maps.has D x=(ZG D x).isSome:=by unfold ZG;cases Maps.has D x<;>rfl
def uC(P:Program)(k:TypeId)(w:World)(b n s:Nat)(f:Lit->Option Value):Prop:=∃D:DataW Value,w.ownsMap P k RV b n D/\Maps.size D=s/\∀x,f x=ZG D x
theorem uC.made(P:Program)(k:TypeId)(w:World):uC P k (w.alloc (.map #[] 0)) w.heap.size 0 0 (fun _=>none):=⟨.map [],World.ownsMap_made w P k RV,rfl,fun _=>rfl⟩
theorem uC.lt(h:uC P k w b n s f):b<w.heap.size:=by obtain⟨D,h,_⟩:=h;exact h.lt
theorem uC.mA(h:uC P k w b n s f):∃es clock,w.heap[b]? = some (.map es clock):=by obtain⟨D,⟨es,a,c,_⟩,_⟩:=h;exact⟨es,a,c⟩
theorem uC.kept(h:uC P k w b n s f)(hb:w'.heap[b]? = w.heap[b]?):uC P k w' b n s f:=by
 obtain⟨D,⟨a,c,d,e⟩,g⟩:=h;exact⟨D,⟨a,c,hb.trans d,e⟩,g⟩
theorem uC.below{C:Nat}(h:uC P k w b n s f)(hb:Below C w w')(hC:b<C):uC P k w' b n s f:=h.kept (hb.block b hC)
theorem uC.alloc(h:uC P k w b n s f)(o:Obj):uC P k (w.alloc o) b n s f:=h.kept (Below.heap_alloc w o b h.lt)
theorem uC.mono(h:uC P k w b n s f){m:Nat}(hm:n<=m):uC P k w b m s f:=by
 obtain⟨D,a,c⟩:=h;exact⟨D,a.mono hm,c⟩
theorem Ml{D:DataW Value}(h:w.ownsMap P k RV b n D)(K:Keyed P k){t e:TypeId}(ht:P.underlying t=some (.map k e)){z:Value}(hz:(zeroValue e).run P w= .ok z w){key:Value}{x:Lit}(hkey:keyOf P k key=some x)(c:Bool):
 (Instr.lookup t (.map (some b)) key c).run P w= .ok (if c then .tuple #[(ZG D x).getD z,.bool (ZG D x).isSome] else(ZG D x).getD z) w:=by
 obtain⟨f,a,g,F,_,rfl⟩:=h;rcases Maps.fit_look c K ht hz g F hkey with⟨hrun,_,hat⟩|⟨e0,y,_,_,hrun,hRv,hat,_⟩
 ·have d:ZG (DataW.map ((f.toList.map (WideElems.rg P k RV)).foldr DataW.insert [])) x=none:=by
   unfold ZG;rw[Maps.has_false_of_atKey hat];rfl
  rw[d];rw[hrun];cases c<;>rfl
 ·have i:y=(.held e0.val,[]):=by
   have:RV e0.val=some y:=hRv;exact(Option.some.inj this).symm
  have d:ZG (DataW.map ((f.toList.map (WideElems.rg P k RV)).foldr DataW.insert [])) x=some e0.val:=by
   unfold ZG;rw[Maps.has_true_of_atKey hat,hat .nil,i];rfl
  rw[d];rw[hrun];cases c<;>rfl
theorem uC.look_ok(h:uC P k w b n s f)(K:Keyed P k){t e:TypeId}(ht:P.underlying t=some (.map k e)){z:Value}(hz:(zeroValue e).run P w= .ok z w){key:Value}{x:Lit}(hkey:keyOf P k key=some x):
 (Instr.lookup t (.map (some b)) key true).run P w= .ok (.tuple #[(f x).getD z,.bool (f x).isSome]) w:=by
 obtain⟨D,a,_,c⟩:=h;rw[c x];exact Ml a K ht hz hkey true
theorem X3{D:DataW Value}(hD:Maps.IsMap D){x:Lit}(hx:WideAt.IsKeyLit x)(v:Value):ZG (D.put x (.held v)) x=some v/\∀y,y≠x->ZG (D.put x (.held v)) y=ZG D y:=by
 refine⟨?_,fun y e=>?_⟩
 ·unfold ZG;rw[Maps.has_put_same hD hx,Maps.atKey_put_same hD hx];rfl
 ·unfold ZG;rw[Maps.has_put_other e,Maps.atKey_put_other e]
def QO(f f':Lit->Option Value)(x:Lit)(v:Option Value):Prop:=f' x=v/\∀y,y≠x->f' y=f y
theorem uC.store(h:uC P k w b n s f)(K:Keyed P k){t e:TypeId}(ht:P.underlying t=some (.map k e))(hn:n<maxLen){key val:Value}{x:Lit}(hkey:keyOf P k key=some x){f':Lit->Option Value}(hf:QO f f' x (some val)):
 ∃w',(Instr.mapUpdate t (.map (some b)) key val).run P w= .ok () w'/\uC P k w' b (n+1) (if(f x).isSome then s else s+1) f'/\w.grownBy w' (some b):=by
 obtain⟨D,a,g,c⟩:=h;obtain⟨w',i,j,l⟩:=a.update K ht hn hkey (val:=val) (d:=.held val) (ps:=[]) rfl;refine⟨w',i,⟨_,j,?_,fun y=>?_⟩,l⟩
 ·rw[Maps.size_put (a.tidy K),Ll,<-c x,g]
 ·by_cases e:y=x
  ·subst e;rw[(X3 a.isMap (K.key hkey) val).1,hf.1]
  ·rw[(X3 a.isMap (K.key hkey) val).2 y e,hf.2 y e,c y]
end
section
variable{P:Program}{ops:Array Oper}{rest:List Oper}{o:Oper}{a:Act}{Q:Exit->Act->World->Prop}{w:World}{k:TypeId}{b n s:Nat}{f:Lit->Option Value}
theorem Pf(hg:o.guard=none)(m x:Operand){t e:TypeId}(hop:o.op=Op.lookup t m x true)(K:Keyed P k)(ht:P.underlying t=some (.map k e)){z:Value}(hz:(zeroValue e).run P w= .ok z w)
 (hm:a.eval m= .map (some b)) (h:uC P k w b n s f) {key:Value} {l:Lit} (hx:a.eval x=key) (hkey:keyOf P k key=some l)
 (hK:wpList P ops Q rest (a.put o.dst (.tuple #[(f l).getD z,.bool (f l).isSome])) w):wpList P ops Q (o:: rest) a w:=by
 refine wpList_plain hg fun d c=>?_
 unfold Oper.wp;simp[execOp,hop,hm,hx,h.look_ok K ht hz hkey,Result.andThen];exact c _ _ hK
end
theorem kK{w:World}{b g:Nat}{es:Array MapEntry}{clock:Nat}{cur:Array Value}{t:TypeId}{fr:Nat×Nat}(h:w.heap[b]? = some (.map es clock))(h':w.heap[g]? = some (.cells cur t fr)):b≠g:=by
 rintro rfl;rw[h] at h';injection h' with h';cases h'
end Mv
namespace P8
open Go.RowKit Kd P4 P5
inductive PT where
 |mk (tag txt key:wA) (attrs:List P3.At) (kids:List PT)
inductive TV where
 |mk (tag txt key:wA) (sa:Sv) (attrs:List P3.At) (sk:Sv) (kids:List TV)
theorem PT.ind{Q:PT->Prop}(h:∀tag txt key attrs kids,(∀k∈kids,Q k)->Q (.mk tag txt key attrs kids))(t:PT):Q t:=
 PT.rec (motive_1:=Q) (motive_2:=fun l=>∀k∈l,Q k) (fun a b c d e ih=>h a b c d e ih) (fun _ f=>by cases f) (fun a l g i k f=>by
  rcases List.mem_cons.1 f with rfl|f
  ·exact g
  ·exact i k f) t
theorem TV.ind{Q:TV->Prop}(h:∀tag txt key sa attrs sk kids,(∀k∈kids,Q k)->Q (.mk tag txt key sa attrs sk kids))(t:TV):Q t:=
 TV.rec (motive_1:=Q) (motive_2:=fun l=>∀k∈l,Q k) (fun a b c d e f g ih=>h a b c d e f g ih) (fun _ i=>by cases i) (fun a l j m k i=>by
  rcases List.mem_cons.1 i with rfl|i
  ·exact j
  ·exact m k i) t
namespace TV
def tag:TV->wA| .mk a _ _ _ _ _ _=>a
def txt:TV->wA| .mk _ a _ _ _ _ _=>a
def key:TV->wA| .mk _ _ a _ _ _ _=>a
def sa:TV->Sv| .mk _ _ _ a _ _ _=>a
def attrs:TV->List P3.At| .mk _ _ _ _ a _ _=>a
def sk:TV->Sv| .mk _ _ _ _ _ a _=>a
def kids:TV->List TV| .mk _ _ _ _ _ _ a=>a
end TV
namespace PT
def tag:PT->wA| .mk a _ _ _ _=>a
def txt:PT->wA| .mk _ a _ _ _=>a
def key:PT->wA| .mk _ _ a _ _=>a
def attrs:PT->List P3.At| .mk _ _ _ a _=>a
def kids:PT->List PT| .mk _ _ _ _ a=>a
end PT
mutual
def er:TV->PT
 | .mk tag txt key _ attrs _ kids=> .mk tag txt key attrs (oA kids)
def oA:List TV->List PT
 |[]=>[]
 |a:: l=>er a:: oA l
end
theorem IB:∀l:List TV,oA l=l.map er
 |[]=>by simp[oA]
 |a:: l=>by simp[oA,IB l]
mutual
def countP:PT->Nat
 | .mk _ _ _ _ kids=>xB kids+1
def xB:List PT->Nat
 |[]=>0
 |a:: l=>countP a+xB l
end
theorem yP(t:PT):1<=countP t:=by cases t;simp[countP]
theorem QR:∀l m:List PT,xB (l++m)=xB l+xB m
 |[],m=>by simp[xB]
 |a:: l,m=>by simp[xB,QR l m];omega
theorem dM{l:List PT}{k:Nat}(h:k<l.length):xB (l.take (k+1))=xB (l.take k)+countP l[k]:=by
 rw[List.take_add_one,List.getElem?_eq_getElem h,QR];simp[xB]
theorem mM(l:List PT)(k:Nat):xB (l.take k)<=xB l:=by
 have:=QR (l.take k) (l.drop k);rw[List.take_append_drop] at this;omega
theorem WX{l:List PT}{k:Nat}(h:k<l.length):countP l[k]<=xB l:=by
 have a:=dM h;have b:=mM l (k+1);omega
theorem aM:∀l:List PT,l.length<=xB l
 |[]=>by simp[xB]
 |a:: l=>by have:=aM l;have:=yP a;simp[xB];omega
mutual
def qF:PT->Bool
 | .mk tag txt key attrs kids=>decide (tag.size<=100)&&decide (txt.size<=100)&&decide (key.size<=100)&&P3.ZH attrs&&bH kids
def bH:List PT->Bool
 |[]=>true
 |a:: l=>qF a&&bH l
end
theorem zT:∀l:List PT,bH l=l.all qF
 |[]=>by simp[bH]
 |a:: l=>by simp[bH,zT l]
theorem YX{l:List PT}{k:Nat}(h:k<l.length)(h1:bH (l.take k)=true)(h2:qF l[k]=true):bH (l.take (k+1))=true:=by
 rw[zT] at h1|-;rw[List.take_add_one,List.getElem?_eq_getElem h,List.all_append,h1];simp[h2]
theorem jO{l:List PT}{k:Nat}(h:k<l.length)(h1:bH l=true):qF l[k]=true:=by
 rw[zT,List.all_eq_true] at h1;exact h1 _ (List.getElem_mem h)
theorem PQ{l:List P3.At}(h:P3.ZH l=true):P3.Wf l/\l.length<=20:=by
 unfold P3.ZH at h;rw[Bool.and_eq_true,List.all_eq_true] at h;refine⟨fun a b=>?_,by simpa using h.1⟩;have:=h.2 a b;unfold P3.qI at this;simp at this;unfold maxLen;omega
mutual
def rE:PT->Bool
 | .mk tag txt key attrs kids=>
   if tag.toList.isEmpty then P1.YB txt.data.toList&&key.toList.isEmpty&&attrs.isEmpty&&kids.isEmpty
   else P1.NC tag.data.toList&&P1.YB key.data.toList&&P3.bC attrs&&txt.toList.isEmpty && !(P1.fC tag.data.toList && !kids.isEmpty)&&iG kids
def iG:List PT->Bool
 |[]=>true
 |a:: l=>rE a&&iG l
end
theorem DT:∀l:List PT,iG l=l.all rE
 |[]=>by simp[iG]
 |a:: l=>by simp[iG,DT l]
theorem uZ{l:List PT}{k:Nat}(h:k<l.length)(hb:rE l[k]=false):iG l=false:=by
 rw[DT];exact Bool.eq_false_iff.2 fun e=>by
  rw[List.all_eq_true] at e;have:=e _ (List.getElem_mem h);rw[hb] at this;cases this
theorem ZX{l:List PT}{k:Nat}(h:k<l.length)(h1:iG (l.take k)=true)(h2:rE l[k]=true):iG (l.take (k+1))=true:=by
 rw[DT] at h1|-;rw[List.take_add_one,List.getElem?_eq_getElem h,List.all_append,h1];simp[h2]
end P8
namespace P8
open Go.RowKit Kd P4 P5
theorem zr:(prog.info? 59).map (fun i=>(i.zero,i.size,i.bytes))=some (some (.agg #[tA,tA,tA,vA,vA]),5,96):=by kernel_rfl
def TV.cells(a:TV):List Value:=[bA a.tag,bA a.txt,bA a.key,.slice a.sa.A a.sa.n a.sa.c,.slice a.sk.A a.sk.n a.sk.c]
def kT:Kind prog TV where
 t:=22
 e:=59
 size:=5
 bytes:=96
 z:=.agg #[tA,tA,tA,vA,vA]
 cs:=TV.cells
 ht:=underlying22
 info:=VG zr
 QG:=rfl
 wF:=by decide
 RG:=by decide
 len:=fun _=>rfl
 one:=fun a u hu=>by simp[TV.cells] at hu;rcases hu with rfl|rfl|rfl|rfl|rfl<;>rfl
theorem TJ{w:World}{B:Nat}{A:jA}{l:List TV}(h:kT.pA w B A l){k:Nat}(hk:k<l.length):
 ∃b o,A=some (dA b o)/\b<B/\w.cell? ⟨b,o+k*5,none⟩=some (bA l[k].tag)/\w.cell? ⟨b,o+k*5+1,none⟩=some (bA l[k].txt)/\w.cell? ⟨b,o+k*5+2,none⟩=some (bA l[k].key)/\
  w.cell? ⟨b,o+k*5+3,none⟩=some (.slice l[k].sa.A l[k].sa.n l[k].sa.c)/\w.cell? ⟨b,o+k*5+4,none⟩=some (.slice l[k].sk.A l[k].sk.n l[k].sk.c):=by
 obtain⟨b,o,rfl,c,a⟩:=h.at hk;exact⟨b,o,rfl,c,a 0 _ rfl,a 1 _ rfl,a 2 _ rfl,a 3 _ rfl,a 4 _ rfl⟩
inductive vC(w:World)(C:Nat):TV->Prop
 |mk {tag txt key:wA} {sa sk:Sv} {attrs:List P3.At} {kids:List TV} (al:attrs.length=sa.n) (ac:sa.n<=sa.c) (az:sa.A=none->sa.c=0) (ah:kA.pA w C sa.A attrs)
  (kl:kids.length=sk.n) (kc:sk.n<=sk.c) (kz:sk.A=none->sk.c=0) (kh:kT.pA w C sk.A kids) (ks:∀k∈kids,vC w C k):vC w C (.mk tag txt key sa attrs sk kids)
section
variable{w w':World}{C D:Nat}{t:TV}
theorem vC.al(h:vC w C t):t.attrs.length=t.sa.n:=by cases h;assumption
theorem vC.ac(h:vC w C t):t.sa.n<=t.sa.c:=by cases h;assumption
theorem vC.az(h:vC w C t):t.sa.A=none->t.sa.c=0:=by cases h;assumption
theorem vC.ah(h:vC w C t):kA.pA w C t.sa.A t.attrs:=by cases h;assumption
theorem vC.kl(h:vC w C t):t.kids.length=t.sk.n:=by cases h;assumption
theorem vC.kc(h:vC w C t):t.sk.n<=t.sk.c:=by cases h;assumption
theorem vC.kz(h:vC w C t):t.sk.A=none->t.sk.c=0:=by cases h;assumption
theorem vC.kh(h:vC w C t):kT.pA w C t.sk.A t.kids:=by cases h;assumption
theorem vC.ks(h:vC w C t):∀k∈t.kids,vC w C k:=by cases h;assumption
theorem vC.qC(h:vC w C t)(hb:Below D w w')(hC:C<=D):vC w' C t:=by
 induction t using TV.ind with
 |h tag txt key sa attrs sk kids ih=>exact⟨h.al,h.ac,h.az,h.ah.below hb hC,h.kl,h.kc,h.kz,h.kh.below hb hC,fun k a=>ih k a (h.ks k a)⟩
theorem vC.more(h:vC w C t)(hC:C<=D):vC w D t:=by
 induction t using TV.ind with
 |h tag txt key sa attrs sk kids ih=>exact⟨h.al,h.ac,h.az,h.ah.more hC,h.kl,h.kc,h.kz,h.kh.more hC,fun k a=>ih k a (h.ks k a)⟩
theorem vC.on(h:vC w w.heap.size t)(hb:eA w w'):vC w' w'.heap.size t:=(h.qC hb Zl).more hb.size
end
def TB(w:World)(s:Nat)(t:TV):Prop:=w.heap[s]? = some (.cells #[bA t.tag,bA t.txt,bA t.key,.slice t.sa.A t.sa.n t.sa.c,.slice t.sk.A t.sk.n t.sk.c] 59 (0,0))
section
variable{w w':World}{s C:Nat}{t:TV}
theorem TB.new(w:World)(t:TV):TB (w.alloc (.cells #[bA t.tag,bA t.txt,bA t.key,.slice t.sa.A t.sa.n t.sa.c,.slice t.sk.A t.sk.n t.sk.c] 59)) w.heap.size t:=heap_alloc_new w _
theorem TB.lt(h:TB w s t):s<w.heap.size:=FA h
theorem TB.below(h:TB w s t)(hb:Below C w w')(hC:s<C):TB w' s t:=(hb.block s hC).trans h
theorem TB.c0(h:TB w s t):w.cell? (dA s 0)=some (bA t.tag):=cell_of_row w s 0 _ _ (0,0) h
theorem TB.c1(h:TB w s t):w.cell? (dA s 1)=some (bA t.txt):=cell_of_row w s 1 _ _ (0,0) h
theorem TB.c2(h:TB w s t):w.cell? (dA s 2)=some (bA t.key):=cell_of_row w s 2 _ _ (0,0) h
theorem TB.c3(h:TB w s t):w.cell? (dA s 3)=some (.slice t.sa.A t.sa.n t.sa.c):=cell_of_row w s 3 _ _ (0,0) h
theorem TB.c4(h:TB w s t):w.cell? (dA s 4)=some (.slice t.sk.A t.sk.n t.sk.c):=cell_of_row w s 4 _ _ (0,0) h
end
def Fits(t:TV):Prop:=t.tag.size<=maxLen/\t.txt.size<=maxLen/\t.key.size<=maxLen/\t.sa.c<=maxLen/\t.sk.c<=maxLen
inductive JJ:TV->Prop
 |mk {t:TV} (h:Fits t) (ks:∀k∈t.kids,JJ k):JJ t
end P8
namespace Mv
open Go.RowKit Kd Go.ChangeMaps Go.MapKept
open Go.Maps (Keyed)
section
variable{P:Program}{w w':World}{k:TypeId}{b n s:Nat}{f:Lit->Option Value}
theorem uC.tight(h:uC P k w b n s f):uC P k w b s s f:=by
 obtain⟨D,⟨a,e,g,F,j,c⟩,d,i⟩:=h;have:a.size<=s:=by
  rw[<-d,c,Maps.size_eq,length_sorted];simp
 exact⟨D,⟨a,e,g,F,this,c⟩,d,i⟩
variable{ops:Array Oper}{o:Oper}{act:Act}{Kk:Act->World->Prop}{Q:Exit->Act->World->Prop}{E:Prop}
end
noncomputable def OJ (f:Lit->Option Value) (l:Lit) (o:Option Value):Lit->Option Value:=fun x=>by
 classical
 exact if x=l then o else f x
theorem WK(f:Lit->Option Value)(l:Lit)(o:Option Value):QO f (OJ f l o) l o:=⟨by unfold OJ;simp,fun y a=>by unfold OJ;simp[a]⟩
theorem tX{w w':World}{r:Option Nat}(h:w.drew.grownBy w' r):w.grownBy w' r:=⟨h.1,h.2,h.3,h.4,h.5⟩
end Mv
namespace P6
open P5
end P6
namespace P9
open Go.RowKit Kd P4 P5 P8
end P9
namespace P10
open Go.RowKit Kd P4 P5 P8 P9
end P10
end Go.Proofs.YtngnkmeaaneklaaGreat
