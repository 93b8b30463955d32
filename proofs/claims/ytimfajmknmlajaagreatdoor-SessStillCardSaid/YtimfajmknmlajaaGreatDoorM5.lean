/- A part of the proof. No condition. -/
import Derived.WalkKit
import Derived.Lib.Strings
import Derived.Lib.UnsafeStr
import Derived.Maps.OwnSet
import Derived.Maps.OwnOps
import Derived.WideKeyEntry
import Derived.Shelf.Strings.Cut
import Derived.Shelf.Strings.Prefix
import Derived.Shelf.Vars
import Derived.Lib.Hide
import Derived.Lib.Walk
import Derived.Test.YtimfajmknmlajaaGreatDoorProg
import Derived.Test.YtimfajmknmlajaaGreatDoorM1
set_option linter.unusedVariables false
set_option linter.unusedSimpArgs false
set_option maxRecDepth 100000
set_option maxHeartbeats 40000000
namespace Go.Proofs.YtimfajmknmlajaaGreatDoor
open Tryz
namespace P3
open Go.RowKit
theorem aW:(prog.info? 131).map (fun i=>(i.zero,i.size,i.bytes))=some (some (.agg #[oA,oA,.bool false]),3,40):=by kernel_rfl
def tF(l:List At):List Value:=l.flatMap fun a=>[bA a.nm,bA a.vl,.bool a.st]
theorem RT(l:List At):(tF l).length=l.length*3:=by
 induction l with
 |nil=>rfl
 |cons a l ih=>simp only[tF,List.flatMap_cons,List.length_append,List.length_cons,List.length_nil] at ih|-;omega
theorem Je(l m:List At):tF (l++m)=tF l++tF m:=by simp[tF]
theorem Of(l:List At)(k:Nat):tF (l.take k)=(tF l).take (k*3):=by
 induction l generalizing k with
 |nil=>simp[tF]
 |cons a l ih=>
  cases k with
  |zero=>simp[tF]
  |succ k=>
   have:=ih k;rw[show(k+1)*3=k*3+3 by omega];simp only[List.take_succ_cons,tF,List.flatMap_cons] at this|-;rw[this];simp
theorem FZ(l:List At)(k:Nat)(h:k<l.length):(tF l)[k*3]? = some (bA l[k].nm)/\(tF l)[k*3+1]? = some (bA l[k].vl)/\(tF l)[k*3+2]? = some (.bool l[k].st):=by
 induction l generalizing k with
 |nil=>simp at h
 |cons a l ih=>
  cases k with
  |zero=>simp[tF]
  |succ k=>
   have:=ih k (by simpa using h);rw[show(k+1)*3=k*3+3 by omega];simp only[tF,List.flatMap_cons,List.cons_append,List.nil_append,List.getElem_cons_succ] at this|-;simpa using this
theorem Bh(l:List At):∀u∈tF l,u.oneCell'=true:=by
 intro u b;simp only[tF,List.mem_flatMap] at b;obtain⟨a,_,c⟩:=b;simp only[List.mem_cons,List.not_mem_nil,or_false] at c;rcases c with rfl|rfl|rfl<;>rfl
def Own(w:World)(base:Nat)(v:Value)(l:List At):Prop:=w.ownsRow base 131 3 v l.length (tF l)
section
variable{w w':World}{base:Nat}{v:Value}{l:List At}
theorem Own.nil(w:World)(base:Nat):Own w base (tA) []:=World.ownsRow_nil w base 131 3
theorem Own.alloc(h:Own w base v l)(o:Obj):Own (w.alloc o) base v l:=World.ownsRow.alloc h o
theorem Own.below{B:Nat}(h:Own w base v l)(hb:Below B w w')(hB:w.heap.size<=B):Own w' base v l:=by
 obtain⟨c,b⟩:=h;refine⟨c,?_⟩;rcases b with b|⟨g,cap,cur,hv,hg,hh,r⟩
 ·exact .inl b
 ·have a:g<w.heap.size:=by
   rcases Nat.lt_or_ge g w.heap.size with a|hge
   ·exact a
   ·rw[Array.getElem?_eq_none hge] at hh;cases hh
  exact .inr ⟨g,cap,cur,hv,hg,(hb.block g dA).trans hh,r⟩
theorem Own.slice(h:Own w base v l):∃A n c,v= .slice A n c/\l.length=n/\n<=c/\c<=maxLen/\(A=Option.none->c=0)/\(∀b o,A=some ⟨b,o,Option.none⟩->base<=b/\b<w.heap.size)/\AA w w.heap.size A l:=by
 obtain⟨r,i⟩:=h;rcases i with⟨rfl,hn⟩|⟨g,cap,cur,rfl,hg,hh,qD,UC,hcs,ht⟩
 ·refine⟨Option.none,0,0,rfl,hn,by omega,by unfold maxLen;omega,fun _=>rfl,fun _ _ e=>(by cases e),fun k f=>absurd f dA⟩
 ·have a:g<w.heap.size:=by
   rcases Nat.lt_or_ge g w.heap.size with a|hge
   ·exact a
   ·rw[Array.getElem?_eq_none hge] at hh;cases hh
  refine⟨_,l.length,cap,rfl,rfl,qD,UC,fun e=>(by cases e),fun b o e=>(by injection e with e;injection e with e1;subst e1;exact⟨hg,a⟩),fun k f=>⟨g,0,rfl,a,?_⟩⟩
  ·have key:∀(j:Nat) (u:Value),(tF l)[j]? = some u->w.cell? (cA g j)=some u:=by
    intro j u d;rw[cell_of_row w g j _ _ _ hh,<-Array.getElem?_toList];rw[<-ht,List.getElem?_take] at d;split at d
    ·exact d
    ·cases d
   obtain⟨m,p,q⟩:=FZ l k f;rw[Nat.zero_add];exact⟨key _ _ m,key _ _ p,key _ _ q⟩
theorem Own.cut{A:vA}{n c k:Nat}(h:Own w base (.slice A n c) l)(hk:k<=l.length):Own w base (.slice A k c) (l.take k):=by
 obtain⟨d,a⟩:=h;have b:(l.take k).length=k:=(by rw[List.length_take];omega);refine⟨RT _,?_⟩;rw[b];rcases a with⟨hv,hn⟩|⟨g,cap,cur,hv,hg,hh,qD,UC,hcs,ht⟩
 ·simp only[Value.slice.injEq] at hv;obtain⟨rfl,rfl,rfl⟩:=hv;have:k=0:=dA;subst this;exact .inl ⟨rfl,rfl⟩
 ·simp only[Value.slice.injEq] at hv;obtain⟨rfl,rfl,rfl⟩:=hv;refine .inr ⟨g,c,cur,rfl,hg,hh,by omega,UC,hcs,?_⟩;rw[Of,<-ht,List.take_take];congr 1;have:=Nat.mul_le_mul_right 3 hk;omega
end
theorem QF{ops:Array Oper}{rest:List Oper}{o:Oper}{a:Act}{Q:Exit->Act->World->Prop}(hgd:o.guard=none)(s x:Operand)
 (ho:o.op= .call {callee:=.builtin .append,args:=#[s,x],argTypes:=#[51,51]})
 {w:World} {base B n c:Nat} {v:Value} {l m:List At} {A:vA} (hs:a.eval s=v) (hown:Own w base v l) (hx:a.eval x= .slice A n c) (hn:m.length=n) (hc:A=none->c=0) (hm:AA w B A m)
 (hl:l.length+n<=10000000) (hbase:base<=w.heap.size)
 (h:∀v' w',Own w' base v' (l++m)->w.grownBy w' v.ownBlock->(v'.ownBlock=v.ownBlock\/v'.ownBlock=some w.heap.size)->wpList prog ops Q rest (a.put o.dst v') w'):wpList prog ops Q (o:: rest) a w:=by
 obtain⟨z,C,k,p,q⟩:=info_parts aW;cases A with
 |none=>
  have t:m=[]:=by
   cases m with
   |nil=>rfl
   |cons b r=>obtain⟨b,o,f,_⟩:=hm 0 FA;cases f
  subst t;subst hn;rw[hc rfl] at hx;refine wpList_append_own_none hgd s x 51 ho base 131 z 3 underlying51 C v _ _ hs hown hx ?_;exact h v w (by simpa using hown) (World.grownBy.refl _ _) (.inl rfl)
 |some ad=>
  subst hn;refine wpList_append_own_at w hgd s x 51 ho base 131 z _ 3 40 underlying51 C k p q rfl pA v _ _ hs hown ad m.length c (tF m) hx (RT m) ?_ (Bh m) TG dA hbase ?_
  ·intro j u i;have H:j<m.length*3:=by
    rw[<-RT];exact(List.getElem?_eq_some_iff.1 i).1
   obtain⟨b,o,f,I,D,J,K⟩:=hm (j/3) dA;obtain⟨E,F,G⟩:=FZ m (j/3) dA;injection f with f;subst f;have g:(⟨b,o,Option.none⟩:Addr).add j=⟨b,o+j,Option.none⟩:=by
    unfold Addr.add;split
    ·rename_i e;subst e;rfl
    ·rfl
   rw[g];have L:j=j/3*3\/j=j/3*3+1\/j=j/3*3+2:=dA;rcases L with e|e|e
   ·rw[<-e] at E D;rw[D,<-E,i]
   ·rw[<-e] at F;rw[show o+j=o+j/3*3+1 by omega,J,<-F,i]
   ·rw[<-e] at G;rw[show o+j=o+j/3*3+2 by omega,K,<-G,i]
  ·intro v' w' d M _ y;refine h v' w' ?_ M y;unfold Own;rw[List.length_append,Je];exact d
def eS(w:World)(l:List At)(e:Ending)(w':World):Prop:=∃v,e= .returned v/\Own w' w.heap.size v l/\fA w w'
theorem PQ(l:List At)(A:vA)(n c:Nat)(s:Bool)(w:World)(hn:l.length=n)(hl:n<=1000000)(H:AA w w.heap.size A l):
 jA 259 #[.slice A n c,.bool s] w (eS w (bC l s)):=by
 have t:=Zh H;have d:=Zh hn;clear H hn;go_enter func259,ntmps259;go_wp2_with fail;go_loopw [5,10] (fun v i wr=>∃k:Nat,k<=n/\i = aA k/\Hid (fA w wr)/\Hid (Own wr w.heap.size v (bC (l.take k) s))) (fun _ i _=>n-(intOf i).toNat)
 case atStart=>exact⟨0,by omega,rfl,Zh Ze,Zh (Own.nil _ _)⟩
 case round=>
  obtain⟨k,B,rfl,p,q⟩:=hrel;have C:w.heap.size<=wr.heap.size:=p.size;by_cases u:k<n
  ·have a:k<l.length:=(IA d.out);obtain⟨b,o,rfl,D,E,F,G⟩:=(t.below p Zl) k a;cases hs:(l[k].st==s)
   ·have r:=Zh hs;go_wp2_with fail;go_roundw
    case rel=>exact⟨k+1,by omega,by go_num,Zh (p.alloc dA _),Zh (by rw[Yh a r.out];exact q.alloc _)⟩
    case measure=>simp[intOf];omega
   ·have r:=Zh hs;have x:=Ae l s k;have y:l.length<=1000000:=(IA d.out);go_wp2_with (at_builtin;refine QF rfl _ _ rfl (v:=u5) (l:=bC (l.take k) s) (m:=[l[k]]) (base:=w.heap.size) rfl ((q.alloc _).alloc _) rfl rfl KF (AA.one (uD.GF _ _ _)) jB jB ?_;intro I J f g _);go_roundw
    case rel=>exact⟨k+1,by omega,by go_num,Zh (((p.alloc dA _).alloc jB _).grown g jB (fun j z=>(World.ownsRow.lt q j z).1)),Zh (by rw[yg a r.out];exact f)⟩
    case measure=>simp[intOf];omega
  ·obtain rfl:k=n:=dA
   go_wp2_with fail;go_ret;exact⟨_,rfl,by rw[zg d.out] at q;exact q,p⟩
theorem JR(l:List At)(A:vA)(n c:Nat)(w:World)(hn:l.length=n)(hl:n<=1000000)(H:AA w w.heap.size A l):
 jA 239 #[.slice A n c] w (eS w (TC l)):=by
 have u:=Zh H;have a:=Zh hn;clear H hn;go_enter func239,ntmps239;go_wp2_with fail;refine(PQ l A n c true _ a hl u).mono ?_;rintro e N ⟨E,rfl,x,y⟩;have F:=Zh x;have k:=Zh y;clear x y;go_wp2_with fail;refine(PQ l A n c false _ a hl (u.on k)).mono ?_;rintro e G ⟨O,rfl,z,o⟩;obtain⟨P,I,Q,rfl,f,p,q,g,r,B⟩:=z.slice;have i:=Zh (F.below o Zl);have C:=Zh (k.trans (o.mono k.size));have s:=Zh f;have t:=Zh g;have J:=Zh B;have K:I<=1000000:=(by have:=AO l false;have:=a.out;omega);have L:(bC l true).length<=1000000:=(by have:=AO l true;have:=a.out;omega);clear z o f g r B q p;have D:w.heap.size<=G.heap.size:=C.size;go_wp2_with (at_builtin;refine QF rfl _ _ rfl (v:=E) (l:=bC l true) (m:=bC l false) (base:=w.heap.size) rfl i rfl s t J dA D ?_;intro R S b d _);go_ret;exact⟨_,rfl,b,C.grown d D (fun j M=>(World.ownsRow.lt i j M).1)⟩
def dF(v:Value)(A:vA):Prop:=∀b o,A=some (cA b o)->some b≠v.ownBlock
theorem Pf{w w':World}{o:Obj}{A:vA}{l:List At}{v:Value}(h:AA w w.heap.size A l)(ha:dF v A)(hg:(w.alloc o).grownBy w' v.ownBlock):AA w' w'.heap.size A l:=by
 have a:=h.on (Ze.alloc Zl o);exact(a.grown hg Zl ha).more hg.size
theorem Ch{w:World}{o:Obj}{A:vA}{l:List At}{v v':Value}{k:Nat}(h:AA w w.heap.size A l)(hk:k<l.length)(ha:dF v A)(hat:v'.ownBlock=v.ownBlock\/v'.ownBlock=some (w.alloc o).heap.size):dF v' A:=by
 intro b c d;obtain⟨i,j,a,f,_⟩:=h k hk;rcases hat with e|e
 ·rw[e];exact ha b c d
 ·rw[e];intro g;rw[d] at a;injection a with e1;injection e1 with e2 _;injection g with e3;have:(w.alloc o).heap.size=w.heap.size+1:=FA;omega
theorem qU{W:World}{base n5 c5 r:Nat}{A5:vA}{L J:List At}(h:Own W base (.slice A5 n5 c5) L)(hn:L.length=n5)(hr:r=min n5 8)(hJ:J=L.take 8):Own W base (.slice A5 r c5) J:=by
 subst hr;subst hJ;have:=h.cut (k:=min n5 8) dA;have e:L.take (min n5 8)=L.take 8:=by
  subst hn;by_cases a:L.length<=8
  ·rw[Nat.min_eq_left a,List.take_of_length_le Zl,List.take_of_length_le a]
  ·rw[Nat.min_eq_right dA]
 rwa[e] at this
theorem Mj{l m:List At}{k n5:Nat}(hn:(uC (bC l true) ((bC m false).take k)).length=n5)(h8:8<=n5):lD l m=(uC (bC l true) ((bC m false).take k)).take 8:=
 di dA
theorem J7{l m:List At}{k:Nat}(hn:(bC m false).length=k):lD l m=(uC (bC l true) ((bC m false).take k)).take 8:=by
 subst hn;simp[lD]
theorem mo(l m:List At)(A B:vA)(n n' c d:Nat)(w:World)(hn:l.length=n)(hn':m.length=n')(hl:n<=1000000)(hm:n'<=1000000)(H:AA w w.heap.size A l)(H2:AA w w.heap.size B m):
 jA 257 #[.slice A n c,.slice B n' d] w (eS w (lD l m)):=by
 have HH:=Zh H;have K:=Zh H2;have HN:=Zh hn;have z:=Zh hn';clear H H2 hn hn';go_enter func257,ntmps257;go_wp2_with fail;refine(PQ l A n c true _ HN hl HH).mono ?_;rintro e w1 ⟨v1,rfl,o1,b1⟩;have O1:=Zh o1;have L:=Zh b1;clear o1 b1;go_wp2_with fail;refine(PQ m B n' d false _ z hm (K.on L)).mono ?_;rintro e w2 ⟨v2,rfl,o2,M⟩;obtain⟨N,n2,c2,rfl,C,O,P,Q,D,R⟩:=o2.slice;have S:=Zh (O1.below M Zl);have AP:Hid (dF v1 N):=Zh (fun b o hA e=>by
  have e1:=(World.ownsRow.lt O1 b e.symm).2;have e2:=(D b o hA).1;omega)
 have B2:=Zh (L.trans (M.mono L.size));have p:=Zh C;have H2:=Zh R;have a1:n2<=1000000:=(by have:=AO m false;have:=z.out;omega);have a2:(bC l true).length<=1000000:=(by have:=AO l true;have:=HN.out;omega);clear o2 M C Q D R P O;have hB:w.heap.size<=w2.heap.size:=B2.size;go_wp2_with fail;go_loopw [5,13] (fun v i wr=>∃k:Nat,k<=n2/\i = aA k/\Hid (fA w wr)/\Hid (Own wr w.heap.size v (uC (bC l true) ((bC m false).take k)))/\Hid (AA wr wr.heap.size N (bC m false))/\Hid (dF v N)) (fun _ i _=>n2-(intOf i).toNat)
 case atStart=>exact⟨0,by omega,rfl,B2,S,H2,AP⟩
 case round=>
  obtain⟨k,hk,rfl,x,y,r,s⟩:=hrel;have T:w.heap.size<=wr.heap.size:=x.size;obtain⟨U,t,V,rfl,E,a3,W,X,F,h5⟩:=y.slice;have a:=Zh E;have a4:t<=2000000:=(by have:=He (bC l true) (bC m false) k;have:=p.out;omega);have a5:=Zh F;have H5:=Zh h5;unfold maxLen at W;clear E X F h5;by_cases a6:k<n2
  ·have f:k<(bC m false).length:=(IA p.out);obtain⟨b,o,rfl,hb,h0,h1,R⟩:=r k f;by_cases h8:8<=t
   ·go_wp2_with fail
    all_goals
     go_ret;exact⟨_,rfl,qU (y.alloc _) a dA (Mj a h8),x.alloc T _⟩
   ·have a7:t<8:=dA;cases hh:uE (uC (bC l true) ((bC m false).take k)) (bC m false)[k].nm
    ·have G:=Zh hh;clear hh;go_wp2_with fail;refine(FC (uC (bC l true) ((bC m false).take k)) U t V _ _ G a dA (H5.on (Zb _ _))).mono ?_;rintro e Y ⟨rfl,I⟩;have q:=Zh I;clear I;have B0:=Zh ((Below.refl wr.heap.size wr).alloc Zl (.cells #[bA (bC m false)[k].nm,bA (bC m false)[k].vl,.bool (bC m false)[k].st] 131));have J:=Zh ((uD.new wr (bC m false)[k]).below q FA);have c0:=J.c0;have c1:=J.c1;have c2:=J.c2;have a8:wr.heap.size<Y.heap.size:=J.lt;have O3:=Zh ((y.alloc (.cells #[bA (bC m false)[k].nm,bA (bC m false)[k].vl,.bool (bC m false)[k].st] 131)).below q Zl);have A3:=Zh ((r.on B0).on q);have W3:=Zh ((x.alloc T _).trans (q.mono jB));have Z:w.heap.size<=Y.heap.size:=W3.size;go_wp2_with (at_builtin;refine QF rfl _ _ rfl (v:=.slice U t V) (l:=uC (bC l true) ((bC m false).take k)) (m:=[(bC m false)[k]]) (base:=w.heap.size) rfl (O3.alloc _) rfl rfl KF (AA.one (uD.new _ _)) (by have:=a.out;simp;omega) jB ?_;intro v' w4 u g a0);go_roundw
     case rel=>exact⟨k+1,by omega,by go_num,Zh ((W3.alloc Z _).grown g jB (fun j hj=>(World.ownsRow.lt O3 j hj).1)),Zh (by rw[ze f G.out];exact u),Zh (Pf A3 s g),Zh (Ch A3 f s a0)⟩
     case measure=>simp[intOf];omega
    ·have G:=Zh hh;clear hh;go_wp2_with fail;refine(FC (uC (bC l true) ((bC m false).take k)) U t V _ _ G a dA (H5.on (Zb _ _))).mono ?_;rintro e Y ⟨rfl,I⟩;have q:=Zh I;clear I;go_wp2_with fail;go_roundw
     case rel=>exact⟨k+1,by omega,by go_num,Zh ((x.alloc T _).trans (q.mono jB)),Zh (by rw[ye f G.out];exact(y.alloc _).below q Zl),Zh ((r.on (Zb _ _)).on q),s⟩
     case measure=>simp[intOf];omega
  ·obtain rfl:k=n2:=dA
   by_cases h8:t<=8
   ·go_wp2_with fail
    all_goals
     go_ret;exact⟨_,rfl,qU y a dA (J7 p),x⟩
   ·go_wp2_with fail
    all_goals
     go_ret;exact⟨_,rfl,qU y a dA (J7 p),x⟩
end P3
namespace P2
def mG(c:UInt8):Bool:=c==38 || c==60 || c==62 || c==34
def oO(c:UInt8):uA:=
 if c=38 then[38,97,109,112,59] else if c=60 then[38,108,116,59] else if c=62 then[38,103,116,59] else if c=34 then[38,113,117,111,116,59] else[]
def vF(c:UInt8):uA:=if mG c then oO c else[c]
def aH(c:UInt8):qA:=⟨(oO c).toArray⟩
def SA(l:uA):uA:=l.flatMap vF
def pO(s:qA):qA:=⟨(SA s.data.toList).toArray⟩
def VF(l:uA):Option (UInt8×Nat):=
 match l with
 |[]=>none
 |c:: _=>
  if mG c=false then some (c,1)
  else if Lib.hasPrefix l (vF 38) then some (38,5)
  else if Lib.hasPrefix l (vF 60) then some (60,4)
  else if Lib.hasPrefix l (vF 62) then some (62,4)
  else if Lib.hasPrefix l (vF 34) then some (34,6)
  else none
def SG:Nat->uA->Option (uA)
 |0,l=>if l=[] then some [] else none
 |n+1,l=>
  if l=[] then some [] else
  match VF l with
  |none=>none
  |some (c,k)=>(SG n (l.drop k)).map (c:: ·)
def EM(l:uA):Option (uA):=SG l.length l
theorem pQ{c:UInt8}(h:mG c=true):c=38\/c=60\/c=62\/c=34:=by
 simpa[mG,or_assoc] using h
theorem qN{c:UInt8}(h:mG c=false):vF c=[c]:=by simp[vF,h]
theorem ZM(c:UInt8):1<=(vF c).length/\(vF c).length<=6:=by
 cases h:mG c
 ·simp[qN h]
 ·rcases pQ h with rfl|rfl|rfl|rfl<;>decide
theorem rN(l:uA):(SA l).length<=6*l.length:=by
 induction l with
 |nil=>simp[SA]
 |cons c r ih=>
  have:=(ZM c).2;simp only[SA,List.flatMap_cons,List.length_append,List.length_cons] at ih|-;omega
theorem AX(a b:uA):SA (a++b)=SA a++SA b:=by simp[SA]
theorem kQ(p r:uA):Lib.hasPrefix (p++r) p=true:=by
 unfold Lib.hasPrefix;rw[List.isPrefixOf_iff_prefix];exact List.prefix_append _ _
theorem xO{l p:uA}:Lib.hasPrefix l p=true↔∃r,l=p++r:=by
 unfold Lib.hasPrefix;rw[List.isPrefixOf_iff_prefix];constructor
 ·rintro⟨r,h⟩;exact⟨r,h.symm⟩
 ·rintro⟨r,h⟩;exact⟨r,h.symm⟩
theorem wO{l:uA}{c:UInt8}(h:Lib.hasPrefix l (vF c)=true):VF l=some (c,(vF c).length):=by
 obtain⟨r,rfl⟩:=xO.1 h;cases hs:mG c
 ·simp[qN hs,VF,hs]
 ·rcases pQ hs with rfl|rfl|rfl|rfl<;>simp[vF,oO,VF,mG,Lib.hasPrefix]
theorem cX{l:uA}{c:UInt8}{k:Nat}(h:VF l=some (c,k)):Lib.hasPrefix l (vF c)=true/\k=(vF c).length:=by
 cases l with
 |nil=>simp[VF] at h
 |cons a r=>
  cases hs:mG a
  ·simp only[VF,hs,if_true,Option.some.injEq,Prod.mk.injEq] at h;obtain⟨rfl,rfl⟩:=h;exact⟨by rw[qN hs];exact kQ [a] r,by rw[qN hs];rfl⟩
  ·simp only[VF,hs,Bool.true_eq_false,if_false] at h;split at h
   ·cases h;exact⟨by assumption,rfl⟩
   ·split at h
    ·cases h;exact⟨by assumption,rfl⟩
    ·split at h
     ·cases h;exact⟨by assumption,rfl⟩
     ·split at h
      ·cases h;exact⟨by assumption,rfl⟩
      ·cases h
theorem An(a:uA):∀n,(SA a).length<=n->SG n (SA a)=some a:=by
 induction a with
 |nil=>intro n _;cases n<;>simp[SA,SG]
 |cons c r ih=>
  intro n d;have f:=(ZM c).1;have e:SA (c:: r)=vF c++SA r:=rfl;rw[e] at d|-;have b:vF c++SA r≠[]:=by
   intro h;have:=congrArg List.length h;simp only[List.length_append,List.length_nil] at this;omega
  rw[List.length_append] at d;obtain⟨m,rfl⟩:∃m,n=m+1:=⟨n-1,by omega⟩;rw[SG,if_neg b,wO (kQ _ _)];show(SG m ((vF c++SA r).drop (vF c).length)).map (c:: ·)=_;rw[List.drop_left,ih m dA];rfl
theorem Bn(a:uA):EM (SA a)=some a:=An a _ Zl
theorem tL{l:uA}{x:UInt8}(h:x∈SA l):x≠60/\x≠62/\x≠34:=by
 simp only[SA,List.mem_flatMap] at h;obtain⟨c,_,hx⟩:=h;cases hs:mG c
 ·rw[qN hs] at hx;simp only[List.mem_singleton] at hx;subst hx;simp[mG] at hs;exact⟨hs.1.1.2,hs.1.2,hs.2⟩
 ·rcases pQ hs with rfl|rfl|rfl|rfl<;>(simp[vF,mG,oO] at hx;rcases hx with rfl|rfl|rfl|rfl|rfl|rfl<;>decide)
theorem uj(s:qA)(k:Nat)(h:k<s.size):s.data.toList.take (k+1)=s.data.toList.take k++[s[k]]:=by
 rw[List.take_succ_eq_append_getElem (by simpa using h)];rfl
theorem wj(s:qA)(k:Nat)(h:k<s.size):SA (s.data.toList.take (k+1))=SA (s.data.toList.take k)++vF s[k]:=by
 rw[uj s k h,AX];simp[SA]
end P2
namespace Mv
open Go.RowKit Kd Go.ChangeMaps Go.MapKept
open Go.Maps (Keyed)
section
variable{P:Program}{w w':World}{k:TypeId}{b n s:Nat}{f:Lit->Option Value}
def RV(v:Value):Option (DataW Value×List MemPlace):=some (.held v,[])
def dy:DataW Value->Value
 | .held v=>v
 |_=>undef
def iH(D:DataW Value)(x:Lit):Option Value:=if Maps.has D x then some (dy (D.atKey x .nil)) else none
theorem So(D:DataW Value)(x:Lit):Maps.has D x=(iH D x).isSome:=by unfold iH;cases Maps.has D x<;>rfl
def zC(P:Program)(k:TypeId)(w:World)(b n s:Nat)(f:Lit->Option Value):Prop:=∃D:DataW Value,w.ownsMap P k RV b n D/\Maps.size D=s/\∀x,f x=iH D x
theorem zC.made(P:Program)(k:TypeId)(w:World):zC P k (w.alloc (.map #[] 0)) w.heap.size 0 0 (fun _=>none):=⟨.map [],World.ownsMap_made w P k RV,rfl,fun _=>rfl⟩
theorem zC.lt(h:zC P k w b n s f):b<w.heap.size:=by obtain⟨D,h,_⟩:=h;exact h.lt
theorem zC.zA(h:zC P k w b n s f):∃es clock,w.heap[b]? = some (.map es clock):=by obtain⟨D,⟨es,a,c,_⟩,_⟩:=h;exact⟨es,a,c⟩
theorem zC.kept(h:zC P k w b n s f)(hb:w'.heap[b]? = w.heap[b]?):zC P k w' b n s f:=by
 obtain⟨D,⟨a,c,d,e⟩,g⟩:=h;exact⟨D,⟨a,c,hb.trans d,e⟩,g⟩
theorem zC.below{C:Nat}(h:zC P k w b n s f)(hb:Below C w w')(hC:b<C):zC P k w' b n s f:=h.kept (hb.block b hC)
theorem zC.alloc(h:zC P k w b n s f)(o:Obj):zC P k (w.alloc o) b n s f:=h.kept (Below.heap_alloc w o b h.lt)
theorem zC.mono(h:zC P k w b n s f){m:Nat}(hm:n<=m):zC P k w b m s f:=by
 obtain⟨D,a,c⟩:=h;exact⟨D,a.mono hm,c⟩
theorem Uo{D:DataW Value}(h:w.ownsMap P k RV b n D)(K:Keyed P k){t e:TypeId}(ht:P.underlying t=some (.map k e)){z:Value}(hz:(zeroValue e).run P w= .ok z w){key:Value}{x:Lit}(hkey:keyOf P k key=some x)(c:Bool):
 (Instr.lookup t (.map (some b)) key c).run P w= .ok (if c then .tuple #[(iH D x).getD z,.bool (iH D x).isSome] else(iH D x).getD z) w:=by
 obtain⟨f,a,g,F,_,rfl⟩:=h;rcases Maps.fit_look c K ht hz g F hkey with⟨hrun,_,hat⟩|⟨e0,y,_,_,hrun,hRv,hat,_⟩
 ·have d:iH (DataW.map ((f.toList.map (WideElems.rg P k RV)).foldr DataW.insert [])) x=none:=by
   unfold iH;rw[Maps.has_false_of_atKey hat];rfl
  rw[d];rw[hrun];cases c<;>rfl
 ·have i:y=(.held e0.val,[]):=by
   have:RV e0.val=some y:=hRv;exact(Option.some.inj this).symm
  have d:iH (DataW.map ((f.toList.map (WideElems.rg P k RV)).foldr DataW.insert [])) x=some e0.val:=by
   unfold iH;rw[Maps.has_true_of_atKey hat,hat .nil,i];rfl
  rw[d];rw[hrun];cases c<;>rfl
theorem zC.look_ok(h:zC P k w b n s f)(K:Keyed P k){t e:TypeId}(ht:P.underlying t=some (.map k e)){z:Value}(hz:(zeroValue e).run P w= .ok z w){key:Value}{x:Lit}(hkey:keyOf P k key=some x):
 (Instr.lookup t (.map (some b)) key true).run P w= .ok (.tuple #[(f x).getD z,.bool (f x).isSome]) w:=by
 obtain⟨D,a,_,c⟩:=h;rw[c x];exact Uo a K ht hz hkey true
theorem Q8{D:DataW Value}(hD:Maps.IsMap D){x:Lit}(hx:WideAt.IsKeyLit x)(v:Value):iH (D.put x (.held v)) x=some v/\∀y,y≠x->iH (D.put x (.held v)) y=iH D y:=by
 refine⟨?_,fun y e=>?_⟩
 ·unfold iH;rw[Maps.has_put_same hD hx,Maps.atKey_put_same hD hx];rfl
 ·unfold iH;rw[Maps.has_put_other e,Maps.atKey_put_other e]
def dQ(f f':Lit->Option Value)(x:Lit)(v:Option Value):Prop:=f' x=v/\∀y,y≠x->f' y=f y
theorem zC.store(h:zC P k w b n s f)(K:Keyed P k){t e:TypeId}(ht:P.underlying t=some (.map k e))(hn:n<maxLen){key val:Value}{x:Lit}(hkey:keyOf P k key=some x){f':Lit->Option Value}(hf:dQ f f' x (some val)):
 ∃w',(Instr.mapUpdate t (.map (some b)) key val).run P w= .ok () w'/\zC P k w' b (n+1) (if(f x).isSome then s else s+1) f'/\w.grownBy w' (some b):=by
 obtain⟨D,a,g,c⟩:=h;obtain⟨w',i,j,l⟩:=a.update K ht hn hkey (val:=val) (d:=.held val) (ps:=[]) rfl;refine⟨w',i,⟨_,j,?_,fun y=>?_⟩,l⟩
 ·rw[Maps.size_put (a.tidy K),So,<-c x,g]
 ·by_cases e:y=x
  ·subst e;rw[(Q8 a.isMap (K.key hkey) val).1,hf.1]
  ·rw[(Q8 a.isMap (K.key hkey) val).2 y e,hf.2 y e,c y]
end
section
variable{P:Program}{ops:Array Oper}{rest:List Oper}{o:Oper}{a:Act}{Q:Exit->Act->World->Prop}{w:World}{k:TypeId}{b n s:Nat}{f:Lit->Option Value}
theorem Lh(hg:o.guard=none)(m x:Operand){t e:TypeId}(hop:o.op=Op.lookup t m x true)(K:Keyed P k)(ht:P.underlying t=some (.map k e)){z:Value}(hz:(zeroValue e).run P w= .ok z w)
 (hm:a.eval m= .map (some b)) (h:zC P k w b n s f) {key:Value} {l:Lit} (hx:a.eval x=key) (hkey:keyOf P k key=some l)
 (hK:wpList P ops Q rest (a.put o.dst (.tuple #[(f l).getD z,.bool (f l).isSome])) w):wpList P ops Q (o:: rest) a w:=by
 refine wpList_plain hg fun d c=>?_
 unfold Oper.wp;simp[execOp,hop,hm,hx,h.look_ok K ht hz hkey,Result.andThen];exact c _ _ hK
end
theorem UK{w:World}{b g:Nat}{es:Array MapEntry}{clock:Nat}{cur:Array Value}{t:TypeId}{fr:Nat×Nat}(h:w.heap[b]? = some (.map es clock))(h':w.heap[g]? = some (.cells cur t fr)):b≠g:=by
 rintro rfl;rw[h] at h';injection h' with h';cases h'

section
variable{P:Program}{w w':World}{k:TypeId}{b n s:Nat}{f:Lit->Option Value}
theorem zC.tight(h:zC P k w b n s f):zC P k w b s s f:=by
 obtain⟨D,⟨a,e,g,F,j,c⟩,d,i⟩:=h;have:a.size<=s:=by
  rw[<-d,c,Maps.size_eq,length_sorted];simp
 exact⟨D,⟨a,e,g,F,this,c⟩,d,i⟩
variable{ops:Array Oper}{o:Oper}{act:Act}{Kk:Act->World->Prop}{Q:Exit->Act->World->Prop}{E:Prop}
end
noncomputable def kK (f:Lit->Option Value) (l:Lit) (o:Option Value):Lit->Option Value:=fun x=>by
 classical
 exact if x=l then o else f x
theorem YL(f:Lit->Option Value)(l:Lit)(o:Option Value):dQ f (kK f l o) l o:=⟨by unfold kK;simp,fun y a=>by unfold kK;simp[a]⟩
theorem AY{w w':World}{r:Option Nat}(h:w.drew.grownBy w' r):w.grownBy w' r:=⟨h.1,h.2,h.3,h.4,h.5⟩
end Mv
namespace P6
open P5
def ME(l:List Nd):Int->List Int->Option Int
 |i,[]=>some i
 |i,t:: r=>if h:t<0\/(xA l i).length<=t.toNat then none else ME l ((xA l i)[t.toNat]'dA) r
theorem Ha{l:List Nd}{i t:Int}{r:List Int}(h:t<0\/(xA l i).length<=t.toNat):ME l i (t:: r)=none:=by rw[ME,dif_pos h]
theorem fm{l:List Nd}{i:Int}{r:List Int}{m:Nat}(h:m<(xA l i).length):ME l i ((m:Int):: r)=ME l (xA l i)[m] r:=by
 rw[ME,dif_neg jB];rfl
def vH(o:Option Int):Int×Bool:=match o with
 |some i=>(i,true)
 |none=>(0,false)
section
variable{d:D}
theorem uu(h:WF d){a b:Int}(ha:nA d.l a=true)(hb:nA d.l b=true){j:Nat}(e:it (EA d.l) j a=b):inside d.l a b=true:=by
 unfold inside dH;rw[decide_eq_true_eq];refine Classical.byContradiction fun c=>?_
 exact h.tr.mc (L:=MA d.l) (fun y f=>zE.1 f) ha hb (by simpa[MA] using c) j e
theorem Ng(h:WF d){f:Nat}{i y:Int}(hi:nA d.l i=true)(hy:y∈sub (xA d.l) f i):inside d.l y i=true:=by
 obtain⟨j,a⟩:=h.tr.iM f i y hy;exact uu h (h.tr.ZJ f i y hi hy) hi a
end
end P6
namespace Bd
open Go.RowKit
def ML(w:World):Prop:=∃m:Int,w.cell? (cA 1 0)=some (aA m)
theorem ML.on{w w':World}(h:ML w)(b:fA w w'):ML w':=by
 obtain⟨m,a⟩:=h;exact⟨m,(b.cell (World.block_lt_of_cell? _ _ a)).trans a⟩
theorem ML.open_{w:World}(h:w.ShapedOpen prog):ML w:=cell_of_shapedOpen_int (P:=prog) (g:=1) (t:=3) (zero:=#[aA 0]) h (of_decide_eq_true (by kernel_rfl)) (by kernel_rfl) rfl (by kernel_rfl) (by kernel_rfl) underlying3
def Ru:Go.Shelf.Ren:=⟨fun|145=>185|217=>260|219=>243|220=>210|224=>262|225=>261|266=>270|267=>263|314=>271|n=>n,fun|3=>3|4=>4|5=>5|9=>9|46=>248|51=>336|59=>274|146=>337|n=>n,fun|1=>1|n=>n⟩
theorem Ns:Go.Proofs.Lays.n145 prog Ru:={
 mixed:=by kernel_rfl
 f145:=func185.trans (congrArg some (by kernel_rfl))
 f217:=func260.trans (congrArg some (by kernel_rfl))
 f219:=func243.trans (congrArg some (by kernel_rfl))
 f220:=func210.trans (congrArg some (by kernel_rfl))
 f224:=func262.trans (congrArg some (by kernel_rfl))
 f225:=func261.trans (congrArg some (by kernel_rfl))
 f266:=func270.trans (congrArg some (by kernel_rfl))
 f267:=func263.trans (congrArg some (by kernel_rfl))
 f314:=func271.trans (congrArg some (by kernel_rfl))
 t3:=underlying3
 a3:=isAgg3
 z3:=sizeOf3
 v3:=zeroValue3
 t4:=underlying4
 a4:=isAgg4
 z4:=sizeOf4
 v4:=zeroValue4
 t5:=underlying5
 a5:=isAgg5
 z5:=sizeOf5
 v5:=zeroValue5
 t9:=underlying9
 a9:=isAgg9
 z9:=sizeOf9
 v9:=zeroValue9
 t46:=underlying248
 a46:=isAgg248
 z46:=sizeOf248
 v46:=zeroValue248
 t51:=underlying336
 a51:=isAgg336
 z51:=sizeOf336
 v51:=zeroValue336
 t59:=underlying274
 a59:=isAgg274
 z59:=sizeOf274
 v59:=zeroValue274
 t146:=underlying337
 a146:=isAgg337
 z146:=sizeOf337
 v146:=zeroValue337
 g1:=by kernel_rfl}
theorem Ps(s sep:qA)(w:World)(hs:s.size<4294967281)(h:ML w):
 jA 185 #[bA s,bA sep] w fun e w'=>e= .returned (.tuple #[bA ⟨(Lib.cut s.data.toList sep.data.toList).1.toArray⟩,bA ⟨(Lib.cut s.data.toList sep.data.toList).2.1.toArray⟩,.bool (Lib.cut s.data.toList sep.data.toList).2.2])/\∃n,w'=w.drewN n:=by
 obtain⟨m,a⟩:=h;exact Any.strings_Cut Ns s sep m w hs a
def Su:Go.Shelf.Ren:=⟨fun|101=>187|206=>184|208=>211|n=>n,fun|3=>3|4=>4|9=>9|n=>n,fun|n=>n⟩
theorem Qs:Go.Proofs.Lays.n101 prog Su:={
 mixed:=by kernel_rfl
 f101:=func187.trans (congrArg some (by kernel_rfl))
 f206:=func184.trans (congrArg some (by kernel_rfl))
 f208:=func211.trans (congrArg some (by kernel_rfl))
 t3:=underlying3
 a3:=isAgg3
 z3:=sizeOf3
 v3:=zeroValue3
 t4:=underlying4
 a4:=isAgg4
 z4:=sizeOf4
 v4:=zeroValue4
 t9:=underlying9
 a9:=isAgg9
 z9:=sizeOf9
 v9:=zeroValue9}
theorem Ho(s p:qA)(w:World):
 jA 187 #[bA s,bA p] w fun e w'=>e= .returned (bA ⟨(Lib.trimPrefix s.data.toList p.data.toList).toArray⟩)/\w'=w:=Any.strings_TrimPrefix Qs s p w
end Bd
end Go.Proofs.YtimfajmknmlajaaGreatDoor
