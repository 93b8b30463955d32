/- A part of the proof. No condition. -/
import Derived.Shelf.Strings.Builder1
import Derived.Shelf.Strings.Prefix
import Derived.Test.YtimfajmknmlajaaGreatDoorProg
import Derived.WalkKit
import Derived.Lib.UnsafeStr
import Derived.Test.YtimfajmknmlajaaGreatDoorRows
import Derived.ChangeSame
import Derived.ChangeVars
import Derived.JoinedOf
import Derived.RowKit
import Derived.RowKitTokens
import Derived.LaidLaws
import Derived.LaidHandle
import Derived.Stop.Joined
import Derived.LaidEql
import Derived.Stop.Asserts
import Derived.Test.YtimfajmknmlajaaGreatDoorM1
set_option linter.unusedVariables false
set_option linter.unusedSimpArgs false
set_option maxRecDepth 100000
set_option maxHeartbeats 40000000
namespace Go.Proofs.YtimfajmknmlajaaGreatDoor
open Go.Proofs.Tryz
namespace P3
open Go.RowKit
theorem Jj(l m:List At)(A B:vA)(n n' c d:Nat)(w:World)(hn:l.length=n)(hn':m.length=n')(hl:n<=1000000)(hm:n'<=1000000)(H:AA w w.heap.size A l)(H2:AA w w.heap.size B m):
 jA 269 #[.slice A n c,.slice B n' d] w fun e w'=>e= .returned (.bool (IE l m))/\fA w w':=by
 have u:=Zh H;have r:=Zh H2;have s:=Zh hn;have j:=Zh hn';clear H H2 hn hn';by_cases a:n=n'
 ·subst a;go_enter func269,ntmps269;go_wp2_with fail;go_loopw [13] (fun i wr=>∃k:Nat,k<=n/\i = aA k/\Hid (fA w wr)/\Hid (II l m k)) (fun i _=>n-(intOf i).toNat)
  case atStart=>exact⟨0,by omega,rfl,Zh Ze,Zh (II.zero _ _)⟩
  case round=>
   obtain⟨k,F,rfl,q,t⟩:=hrel;by_cases v:k<n
   ·have f:k<l.length:=(IA s.out);have g:k<m.length:=(IA j.out);obtain⟨b,o,rfl,G,I,J,K⟩:=(u.below q Zl) k f;obtain⟨L,M,rfl,x,y,z,C⟩:=(r.below q Zl) k g;have N:=ie;cases hat:kF l[k] m[k]
    ·have D:=UR hat;have p:=Zh hat;clear hat;go_wp2_with fail;go_quiet (fail);go_wp2_with fail;go_ret;exact⟨WC (OY f g p).symm,OC q _⟩
    ·have D:=UR hat;have p:=Zh hat;clear hat;go_wp2_with fail;go_quiet (fail);go_wp2_with fail;go_roundw
     case rel=>exact⟨k+1,by omega,by go_num,Zh (OC q _),Zh (t.next f g p)⟩
     case measure=>simp[intOf];omega
   ·obtain rfl:k=n:=dA
    go_wp2_with fail;go_ret;exact⟨WC (t.all s j).symm,q⟩
 ·have O:((n:Int) != (n':Int))=true:=jB;have E:Hid (l.length≠m.length):=Zh (by rw[s.out,j.out];exact a);clear a;go_enter func269,ntmps269;go_wp2_with fail;go_ret;exact⟨WC (NY E).symm,Ze⟩
theorem Xn(l m:List At)(A B:vA)(n n' c d:Nat)(w:World)(hn:l.length=n)(hn':m.length=n')(hl:n<=1000000)(hm:n'<=1000000)(H:AA w w.heap.size A l)(H2:AA w w.heap.size B m):
 jA 258 #[.slice A n c,.slice B n' d] w fun e w'=>e= .returned (.bool (IE l m))/\fA w w':=by
 have g:=Zh H;have a:=Zh H2;have i:=Zh hn;have b:=Zh hn';clear H H2 hn hn';go_enter func258,ntmps258;go_wp2_with fail;refine(Jj l m A B n n' c d _ i b hl hm g a).mono ?_;rintro e k ⟨rfl,f⟩;have j:=Zh f;clear f;go_wp2_with fail;go_ret;exact⟨rfl,j⟩
theorem Xr(l m:List At)(A B:vA)(n n' c d:Nat)(w:World){r:Bool}(hr:IE l m=r)(hn:l.length=n)(hn':m.length=n')(hl:n<=1000000)(hm:n'<=1000000)(H:AA w w.heap.size A l)(H2:AA w w.heap.size B m):
 jA 258 #[.slice A n c,.slice B n' d] w fun e w'=>e= .returned (.bool r)/\fA w w':=by
 subst hr;exact Xn l m A B n n' c d w hn hn' hl hm H H2
end P3
namespace P19
open P5
def In(l:List Nd)(p y:Int):Prop:=∃k,it (EA l) (k+1) y=p
def XE(d d':D)(p:Int):Prop:=∀y,nA d.l y=true->¬In d.l p y->nA d'.l y=true/\EA d'.l y=EA d.l y
theorem XE.refl(d:D)(p:Int):XE d d p:=fun _ h _=>⟨h,rfl⟩
theorem uV{l:List Nd}{p y:Int}(h:EA l y=p):In l p y:=⟨0,h⟩
theorem Xc{l:List Nd}{p y:Int}(h:In l p (EA l y)):In l p y:=by
 obtain⟨k,a⟩:=h;exact⟨k+1,a⟩
section
variable{d d' d2:D}{p:Int}
theorem J1(hw:WF d)(hw':WF d')(h:XE d d' p){y:Int}(hy:nA d.l y=true)(hn:¬In d.l p y):
 ∀k,it (EA d'.l) k y=it (EA d.l) k y/\(it (EA d.l) k y=0\/nA d.l (it (EA d.l) k y)=true/\¬In d.l p (it (EA d.l) k y))
 |0=>⟨rfl,.inr ⟨hy,hn⟩⟩
 |k+1=>by
  obtain⟨e,hc⟩:=J1 hw hw' h hy hn k;rw[OF,OF,e];rcases hc with hc|⟨h1,h2⟩
  ·rw[hc,hw.tr.zero,hw'.tr.zero];exact⟨rfl,.inl rfl⟩
  ·refine⟨(h _ h1 h2).2,?_⟩;by_cases e0:EA d.l (it (EA d.l) k y)=0
   ·exact .inl e0
   ·exact .inr ⟨hw.tr.rI e0,fun hi=>h2 (Xc hi)⟩
theorem Hi(hw:WF d)(hw':WF d')(h:XE d d' p){y:Int}(hy:nA d.l y=true)(hn:¬In d.l p y):¬In d'.l p y:=by
 rintro⟨k,a⟩;rw[(J1 hw hw' h hy hn (k+1)).1] at a;exact hn ⟨k,a⟩
theorem XE.trans(hw:WF d)(hw':WF d')(h:XE d d' p)(h2:XE d' d2 p):XE d d2 p:=fun y a b=>by
 obtain⟨c,e⟩:=h y a b;obtain⟨f,g⟩:=h2 y c (Hi hw hw' h a b);exact⟨f,g.trans e⟩
theorem XE.up{i:Int}(hi:EA d.l i=p)(h:XE d d' i):XE d d' p:=fun y a b=>h y a fun⟨k,hk⟩=>b ⟨k+1,by rw[OF,hk];exact hi⟩
theorem vV{i j:Int}(hw:WF d)(hp:p≠0)(hi:EA d.l i=p)(hj:EA d.l j=p):¬In d.l i j:=by
 rintro⟨k,a⟩;have b:it (EA d.l) k p=i:=(by rw[<-hj];exact a);refine hw.tr.IL (x:=p) (j:=k) hp ?_;rw[OF,b];exact hi
theorem Jg(h1:∀y,nA d'.l y=nA d.l y)(h2:∀y,EA d'.l y=EA d.l y):XE d d' p:=fun y a _=>⟨(h1 y).trans a,h2 y⟩
theorem zQ(d:D)(i:Int)(a:List P3.At):(∀y,nA (XD d i a).2.l y=nA d.l y)/\∀y,EA (XD d i a).2.l y=EA d.l y:=by
 unfold XD;split
 ·exact⟨fun _=>rfl,fun _=>rfl⟩
 split
 ·exact⟨fun _=>rfl,fun _=>rfl⟩
 split
 ·exact⟨fun _=>rfl,fun _=>rfl⟩
 ·refine⟨fun y=>xN d.l i (pH a) (fun _=>rfl) y,fun y=>?_⟩;show EA (mB d.l i (pH a)) y=_;rw[dP (f:=pH a) (fun _=>rfl) (g:=fun x=>x.par) (fun _=>rfl)];unfold EA;cases find d.l y<;>simp
theorem Ii(d:D)(i:Int)(t:qA):(∀y,nA (nF d i t).2.l y=nA d.l y)/\∀y,EA (nF d i t).2.l y=EA d.l y:=by
 unfold nF;split
 ·exact⟨fun _=>rfl,fun _=>rfl⟩
 split
 ·exact⟨fun _=>rfl,fun _=>rfl⟩
 split
 ·exact⟨fun _=>rfl,fun _=>rfl⟩
 ·refine⟨fun y=>xN d.l i (UJ t) (fun _=>rfl) y,fun y=>?_⟩;show EA (mB d.l i (UJ t)) y=_;rw[dP (f:=UJ t) (fun _=>rfl) (g:=fun x=>x.par) (fun _=>rfl)];unfold EA;cases find d.l y<;>simp
theorem bR(hw:WF d)(i b:Int):(∀y,nA (YD d i p b).2.l y=nA d.l y)/\∀y,y≠i->EA (YD d i p b).2.l y=EA d.l y:=by
 unfold YD;split
 ·rename_i h;have c:=SM h;refine⟨fun y=>UU y,fun y a=>?_⟩;show EA (SA d.l i p b) y=_;rw[tR hw.tr c.hi,pE _ _ a,zI hw.tr,pE _ _ a]
 ·exact⟨fun _=>rfl,fun _ _=>rfl⟩
theorem ru(hw:WF d){i b:Int}(h:EA d.l i=p):EA (YD d i p b).2.l i=p:=by
 unfold YD;split
 ·rename_i hk;show EA (SA d.l i p b) i=_;rw[tR hw.tr (SM hk).hi,MG]
 ·exact h
theorem Ji(hw:WF d){i b:Int}(h:EA d.l i=p):XE d (YD d i p b).2 p:=fun y c f=>by
 have a:y≠i:=fun e=>f (uV (by rw[e];exact h))
 obtain⟨g,j⟩:=bR (p:=p) hw i b;exact⟨(g y).trans c,j y a⟩
theorem IT(hw:WF d){i y:Int}(hy:nA d.l y=true)(hne:y≠i)(hn:¬In d.l i y):nA (uF d i).2.l y=true/\EA (uF d i).2.l y=EA d.l y:=by
 unfold uF;split
 ·exact⟨hy,rfl⟩
 split
 ·exact⟨hy,rfl⟩
 ·rename_i f h1;have f:nA d.l i=true:=(by simpa using f);have b:=PJ (i:=i) hw.tr;have g:y∉below (UA d.l i) i:=by
   intro m;obtain⟨j,k⟩:=b.iM _ _ _ m;rw[zI hw.tr] at k;have key:∀j (z:Int),z≠i->¬In d.l i z->it (xF (EA d.l) i 0) j z≠i:=by
    intro j
    induction j with
    |zero=>intro z c _ e;exact c e
    |succ j ih=>
     intro z c a e;have n:it (xF (EA d.l) i 0) j (EA d.l z)=i:=by
      have:xF (EA d.l) i 0 z=EA d.l z:=pE _ _ c;rw[<-this];exact e
     exact ih (EA d.l z) (fun o=>a (uV o)) (fun p=>a (Xc p)) n
   exact key j y hne hn k
  have q:nA (ED d.l i) y=true:=by
   unfold ED;rw[fP,qH];exact⟨hy,g⟩
  refine⟨q,?_⟩;show EA (ED d.l i) y=_;have:EA (ED d.l i) y=EA (UA d.l i) y:=by
   unfold ED EA;rw[BI,if_neg g]
  rw[this,zI hw.tr,pE _ _ hne]
theorem cY(hw:WF d){i:Int}(h:EA d.l i=p):XE d (uF d i).2 p:=fun y b a=>
 IT hw b (fun e=>a (uV (by rw[e];exact h))) fun⟨k,hk⟩=>a ⟨k+1,by rw[OF,hk];exact h⟩
theorem dY(d:D)(r:Rc)(hw:WF d){y:Int}(hy:nA d.l y=true):nA (rE d r).2.l y=true/\EA (rE d r).2.l y=EA d.l y:=by
 unfold rE;split
 ·exact⟨hy,rfl⟩
 split
 ·exact⟨hy,rfl⟩
 ·rename_i h _;have f:r.id=d.n+1:=by
   by_cases e:r.id=d.n+1
   ·exact e
   ·exact absurd (.inl e) h
  have a:y≠(IB r.id r.tag r.txt r.key).id:=by
   show y≠r.id;have:=(hw.pos hy).2;omega
  have b:nA d.l (IB r.id r.tag r.txt r.key).id=false:=by
   show nA d.l r.id=false;rw[f];exact hw.next
  have c:=gN (x:=IB r.id r.tag r.txt r.key) b y;rw[if_neg a] at c;refine⟨?_,?_⟩
  ·show nA (d.l++[IB r.id r.tag r.txt r.key]) y=true;unfold nA at hy|-;rw[c];exact hy
  ·show EA (d.l++[IB r.id r.tag r.txt r.key]) y=EA d.l y;unfold EA;rw[c]
end
end P19
namespace P3
def Diff(a b:At):Prop:=a.nm.toList≠b.nm.toList
theorem Vl{laid m:List At}{a:At}(h:a∈uC laid m):a∈laid\/a∈m:=by
 induction m generalizing laid with
 |nil=>exact .inl h
 |cons b m ih=>
  simp only[uC] at h;split at h
  ·rcases ih h with h|h
   ·exact .inl h
   ·exact .inr (List.mem_cons_of_mem _ h)
  ·rcases ih h with h|h
   ·rcases List.mem_append.1 h with h|h
    ·exact .inl h
    ·exact .inr (by rw[List.mem_singleton] at h;subst h;exact List.mem_cons_self)
   ·exact .inr (List.mem_cons_of_mem _ h)
theorem Mi{laid m:List At}(h:laid.Pairwise Diff):(uC laid m).Pairwise Diff:=by
 induction m generalizing laid with
 |nil=>exact h
 |cons b m ih=>
  simp only[uC];split
  ·exact ih h
  ·rename_i hb;refine ih (List.pairwise_append.2 ⟨h,List.pairwise_singleton _ _,fun x hx y a=>?_⟩);rw[List.mem_singleton] at a;subst a;exact jT.1 (by simpa using hb) x hx
theorem ZY{l m:List At}{a:At}(h:a∈lD l m):a∈l\/a∈m:=by
 rcases Vl (List.mem_of_mem_take h) with h|h
 ·exact .inl (BO.1 h).1
 ·exact .inr (BO.1 h).1
theorem Y3{m:List At}{a:At}(h:a∈TC m):a∈m:=by
 rcases List.mem_append.1 h with h|h<;>exact(BO.1 h).1
theorem tT{l:List At}(s:Bool)(h:l.Pairwise Diff):(bC l s).Pairwise Diff:=h.sublist List.filter_sublist
theorem Wl{m:List At}(h:m.Pairwise Diff){a b:At}(ha:a∈m)(hb:b∈m)(hne:a.st≠b.st):Diff a b:=by
 obtain⟨i,c,rfl⟩:=List.getElem_of_mem ha;obtain⟨j,d,rfl⟩:=List.getElem_of_mem hb;rcases Nat.lt_trichotomy i j with hij|hij|hij
 ·exact List.pairwise_iff_getElem.1 h i j c d hij
 ·subst hij;exact absurd rfl hne
 ·exact fun e=>List.pairwise_iff_getElem.1 h j i d c hij e.symm
theorem Ni{m:List At}(h:m.Pairwise Diff):(TC m).Pairwise Diff:=by
 unfold TC;refine List.pairwise_append.2 ⟨tT _ h,tT _ h,fun a g b i=>?_⟩;obtain⟨c,d⟩:=BO.1 g;obtain⟨e,f⟩:=BO.1 i;exact Wl h c e (by rw[d,f];decide)
theorem Oi{l m:List At}(hl:kC l=true)(hm:kC m=true):kC (lD l m)=true:=by
 obtain⟨_,b,c⟩:=AI.1 hl;obtain⟨_,d,_⟩:=AI.1 hm;refine AI.2 ⟨ZT l m,fun a e=>?_,?_⟩
 ·rcases ZY e with h|h
  ·exact b a h
  ·exact d a h
 ·exact(Mi (tT true c)).sublist (List.take_sublist _ _)
theorem Xl{m:List At}(hm:kC m=true):kC (TC m)=true:=by
 obtain⟨b,c,d⟩:=AI.1 hm;exact AI.2 ⟨by rw[A0];exact b,fun a e=>c a (Y3 e),Ni d⟩
end P3
namespace P8
open Go.RowKit Kd P4 P5
inductive PT where
 |mk (tag txt key:qA) (attrs:List P3.At) (kids:List PT)
inductive TV where
 |mk (tag txt key:qA) (sa:Sv) (attrs:List P3.At) (sk:Sv) (kids:List TV)
theorem PT.ind{Q:PT->Prop}(h:∀tag txt key attrs kids,(∀k∈kids,Q k)->Q (.mk tag txt key attrs kids))(t:PT):Q t:=
 PT.rec (motive_1:=Q) (motive_2:=fun l=>∀k∈l,Q k) (fun a b c d e ih=>h a b c d e ih) (fun _ f=>by cases f) (fun a l g i k f=>by
  rcases List.mem_cons.1 f with rfl|f
  ·exact g
  ·exact i k f) t
theorem TV.ind{Q:TV->Prop}(h:∀tag txt key sa attrs sk kids,(∀k∈kids,Q k)->Q (.mk tag txt key sa attrs sk kids))(t:TV):Q t:=
 TV.rec (motive_1:=Q) (motive_2:=fun l=>∀k∈l,Q k) (fun a b c d e f g ih=>h a b c d e f g ih) (fun _ i=>by cases i) (fun a l j m k i=>by
  rcases List.mem_cons.1 i with rfl|i
  ·exact j
  ·exact m k i) t
namespace TV
def tag:TV->qA| .mk a _ _ _ _ _ _=>a
def txt:TV->qA| .mk _ a _ _ _ _ _=>a
def key:TV->qA| .mk _ _ a _ _ _ _=>a
def sa:TV->Sv| .mk _ _ _ a _ _ _=>a
def attrs:TV->List P3.At| .mk _ _ _ _ a _ _=>a
def sk:TV->Sv| .mk _ _ _ _ _ a _=>a
def kids:TV->List TV| .mk _ _ _ _ _ _ a=>a
end TV
namespace PT
def tag:PT->qA| .mk a _ _ _ _=>a
def txt:PT->qA| .mk _ a _ _ _=>a
def key:PT->qA| .mk _ _ a _ _=>a
def attrs:PT->List P3.At| .mk _ _ _ a _=>a
def kids:PT->List PT| .mk _ _ _ _ a=>a
end PT
mutual
def er:TV->PT
 | .mk tag txt key _ attrs _ kids=> .mk tag txt key attrs (yA kids)
def yA:List TV->List PT
 |[]=>[]
 |a:: l=>er a:: yA l
end
theorem nC:∀l:List TV,yA l=l.map er
 |[]=>by simp[yA]
 |a:: l=>by simp[yA,nC l]
mutual
def countP:PT->Nat
 | .mk _ _ _ _ kids=>cB kids+1
def cB:List PT->Nat
 |[]=>0
 |a:: l=>countP a+cB l
end
theorem NJ(t:PT):1<=countP t:=by cases t;simp[countP]
theorem ZS:∀l m:List PT,cB (l++m)=cB l+cB m
 |[],m=>by simp[cB]
 |a:: l,m=>by simp[cB,ZS l m];omega
theorem PM{l:List PT}{k:Nat}(h:k<l.length):cB (l.take (k+1))=cB (l.take k)+countP l[k]:=by
 rw[List.take_add_one,List.getElem?_eq_getElem h,ZS];simp[cB]
theorem VM(l:List PT)(k:Nat):cB (l.take k)<=cB l:=by
 have:=ZS (l.take k) (l.drop k);rw[List.take_append_drop] at this;omega
theorem oy{l:List PT}{k:Nat}(h:k<l.length):countP l[k]<=cB l:=by
 have a:=PM h;have b:=VM l (k+1);omega
theorem mQ:∀l:List PT,l.length<=cB l
 |[]=>by simp[cB]
 |a:: l=>by have:=mQ l;have:=NJ a;simp[cB];omega
mutual
def JG:PT->Bool
 | .mk tag txt key attrs kids=>decide (tag.size<=100)&&decide (txt.size<=100)&&decide (key.size<=100)&&P3.dK attrs&&aL kids
def aL:List PT->Bool
 |[]=>true
 |a:: l=>JG a&&aL l
end
theorem UO:∀l:List PT,aL l=l.all JG
 |[]=>by simp[aL]
 |a:: l=>by simp[aL,UO l]
theorem Mq{l:List PT}{k:Nat}(h:k<l.length)(h1:aL l=true):JG l[k]=true:=by
 rw[UO,List.all_eq_true] at h1;exact h1 _ (List.getElem_mem h)
theorem wu{l:List P3.At}(h:P3.dK l=true):P3.Wf l/\l.length<=20:=by
 unfold P3.dK at h;rw[Bool.and_eq_true,List.all_eq_true] at h;refine⟨fun a b=>?_,by simpa using h.1⟩;have:=h.2 a b;unfold P3.eM at this;simp at this;unfold maxLen;omega
mutual
def iC:PT->Bool
 | .mk tag txt key attrs kids=>
   if tag.toList.isEmpty then P1.yC txt.data.toList&&key.toList.isEmpty&&attrs.isEmpty&&kids.isEmpty
   else P1.JC tag.data.toList&&P1.yC key.data.toList&&P3.kC attrs&&txt.toList.isEmpty && !(P1.dC tag.data.toList && !kids.isEmpty)&&gD kids
def gD:List PT->Bool
 |[]=>true
 |a:: l=>iC a&&gD l
end
theorem DK:∀l:List PT,gD l=l.all iC
 |[]=>by simp[gD]
 |a:: l=>by simp[gD,DK l]
theorem U4{l:List PT}{k:Nat}(h:k<l.length)(hb:iC l[k]=false):gD l=false:=by
 rw[DK];exact Bool.eq_false_iff.2 fun e=>by
  rw[List.all_eq_true] at e;have:=e _ (List.getElem_mem h);rw[hb] at this;cases this
theorem iZ{l:List PT}{k:Nat}(h:k<l.length)(h1:gD (l.take k)=true)(h2:iC l[k]=true):gD (l.take (k+1))=true:=by
 rw[DK] at h1|-;rw[List.take_add_one,List.getElem?_eq_getElem h,List.all_append,h1];simp[h2]
end P8
namespace P8
open Go.RowKit Kd P4 P5
theorem Tv:(prog.info? 81).map (fun i=>(i.zero,i.size,i.bytes))=some (some (.agg #[oA,oA,oA,tA,tA]),5,96):=by kernel_rfl
def TV.cells(a:TV):List Value:=[bA a.tag,bA a.txt,bA a.key,.slice a.sa.A a.sa.n a.sa.c,.slice a.sk.A a.sk.n a.sk.c]
def kT:Kind prog TV where
 t:=79
 e:=81
 size:=5
 bytes:=96
 z:=.agg #[oA,oA,oA,tA,tA]
 cs:=TV.cells
 ht:=underlying79
 info:=LH Tv
 zH:=rfl
 zG:=by decide
 BH:=by decide
 len:=fun _=>rfl
 one:=fun a u hu=>by simp[TV.cells] at hu;rcases hu with rfl|rfl|rfl|rfl|rfl<;>rfl
theorem qK{w:World}{B:Nat}{A:vA}{l:List TV}(h:kT.AA w B A l){k:Nat}(hk:k<l.length):
 ∃b o,A=some (cA b o)/\b<B/\w.cell? ⟨b,o+k*5,none⟩=some (bA l[k].tag)/\w.cell? ⟨b,o+k*5+1,none⟩=some (bA l[k].txt)/\w.cell? ⟨b,o+k*5+2,none⟩=some (bA l[k].key)/\
  w.cell? ⟨b,o+k*5+3,none⟩=some (.slice l[k].sa.A l[k].sa.n l[k].sa.c)/\w.cell? ⟨b,o+k*5+4,none⟩=some (.slice l[k].sk.A l[k].sk.n l[k].sk.c):=by
 obtain⟨b,o,rfl,c,a⟩:=h.at hk;exact⟨b,o,rfl,c,a 0 _ rfl,a 1 _ rfl,a 2 _ rfl,a 3 _ rfl,a 4 _ rfl⟩
inductive EC(w:World)(C:Nat):TV->Prop
 |mk {tag txt key:qA} {sa sk:Sv} {attrs:List P3.At} {kids:List TV} (al:attrs.length=sa.n) (ac:sa.n<=sa.c) (az:sa.A=none->sa.c=0) (ah:kA.AA w C sa.A attrs)
  (kl:kids.length=sk.n) (kc:sk.n<=sk.c) (kz:sk.A=none->sk.c=0) (kh:kT.AA w C sk.A kids) (ks:∀k∈kids,EC w C k):EC w C (.mk tag txt key sa attrs sk kids)
section
variable{w w':World}{C D:Nat}{t:TV}
theorem EC.al(h:EC w C t):t.attrs.length=t.sa.n:=by cases h;assumption
theorem EC.ac(h:EC w C t):t.sa.n<=t.sa.c:=by cases h;assumption
theorem EC.az(h:EC w C t):t.sa.A=none->t.sa.c=0:=by cases h;assumption
theorem EC.ah(h:EC w C t):kA.AA w C t.sa.A t.attrs:=by cases h;assumption
theorem EC.kl(h:EC w C t):t.kids.length=t.sk.n:=by cases h;assumption
theorem EC.kc(h:EC w C t):t.sk.n<=t.sk.c:=by cases h;assumption
theorem EC.kz(h:EC w C t):t.sk.A=none->t.sk.c=0:=by cases h;assumption
theorem EC.kh(h:EC w C t):kT.AA w C t.sk.A t.kids:=by cases h;assumption
theorem EC.ks(h:EC w C t):∀k∈t.kids,EC w C k:=by cases h;assumption
theorem EC.later(h:EC w C t)(hb:Below D w w')(hC:C<=D):EC w' C t:=by
 induction t using TV.ind with
 |h tag txt key sa attrs sk kids ih=>exact⟨h.al,h.ac,h.az,h.ah.below hb hC,h.kl,h.kc,h.kz,h.kh.below hb hC,fun k a=>ih k a (h.ks k a)⟩
theorem EC.more(h:EC w C t)(hC:C<=D):EC w D t:=by
 induction t using TV.ind with
 |h tag txt key sa attrs sk kids ih=>exact⟨h.al,h.ac,h.az,h.ah.more hC,h.kl,h.kc,h.kz,h.kh.more hC,fun k a=>ih k a (h.ks k a)⟩
theorem EC.on(h:EC w w.heap.size t)(hb:fA w w'):EC w' w'.heap.size t:=(h.later hb Zl).more hb.size
end
def TB(w:World)(s:Nat)(t:TV):Prop:=w.heap[s]? = some (.cells #[bA t.tag,bA t.txt,bA t.key,.slice t.sa.A t.sa.n t.sa.c,.slice t.sk.A t.sk.n t.sk.c] 81 (0,0))
section
variable{w w':World}{s C:Nat}{t:TV}
theorem TB.new(w:World)(t:TV):TB (w.alloc (.cells #[bA t.tag,bA t.txt,bA t.key,.slice t.sa.A t.sa.n t.sa.c,.slice t.sk.A t.sk.n t.sk.c] 81)) w.heap.size t:=heap_alloc_new w _
theorem TB.lt(h:TB w s t):s<w.heap.size:=JA h
theorem TB.below(h:TB w s t)(hb:Below C w w')(hC:s<C):TB w' s t:=(hb.block s hC).trans h
theorem TB.c0(h:TB w s t):w.cell? (cA s 0)=some (bA t.tag):=cell_of_row w s 0 _ _ (0,0) h
theorem TB.c1(h:TB w s t):w.cell? (cA s 1)=some (bA t.txt):=cell_of_row w s 1 _ _ (0,0) h
theorem TB.c2(h:TB w s t):w.cell? (cA s 2)=some (bA t.key):=cell_of_row w s 2 _ _ (0,0) h
theorem TB.c3(h:TB w s t):w.cell? (cA s 3)=some (.slice t.sa.A t.sa.n t.sa.c):=cell_of_row w s 3 _ _ (0,0) h
theorem TB.c4(h:TB w s t):w.cell? (cA s 4)=some (.slice t.sk.A t.sk.n t.sk.c):=cell_of_row w s 4 _ _ (0,0) h
end
end P8
namespace Bd
open Go.RowKit
theorem sizeBuilder:(prog.info? 219).map (·.size)=some 2:=by kernel_rfl
theorem liesBuilder:liesAt prog prog.depth 219 (2/prog.cellsOf 219) 0 219 1=true:=by kernel_rfl
theorem infoByte:(prog.info? 5).map (fun i=>(i.zero,i.size,i.bytes))=some (some (.int .u8 0),1,1):=by kernel_rfl
theorem tY(b:Nat)(w:World)(h0:w.cell? (cA b 0)=some (lA b)):
 jA 207 #[lA b] w fun e w'=>e= .returned (.tuple #[])/\w'=w:=by
 obtain⟨j,a,_⟩:=Option.map_eq_some_iff.1 sizeBuilder;go_enter func207,ntmps207;go_wp2;rw[Lib.run_neq_ptr_same w _ underlying217 a];go_wp2
 go_end0
 exact⟨rfl,rfl⟩
theorem EX(b:Nat)(w:World)(h0:w.cell? (cA b 0)=some (.pointer none))(hsh:w.shape? b=some (219,2))(hfz:w.frozen? (cA b 0)=false):
 jA 207 #[lA b] w fun e w'=>e= .returned (.tuple #[])/\w'=w.setCell (cA b 0) (lA b):=by
 obtain⟨j,c,a⟩:=Option.map_eq_some_iff.1 sizeBuilder;go_enter func207,ntmps207;go_wp2;rw[Lib.run_to_unsafe w (cA b 0) underlying217 underlying165 c (by rw[a];decide) hsh (Nat.zero_lt_succ 1)];simp only[Result.andThen];rw[Oper.upon_value];go_wp2;rw[run_callFunc_extern func242 (by kernel_rfl) (by kernel_rfl) (by kernel_rfl) (e:=Extern.AbiNoEscape.same) (by kernel_rfl)];rw[Lib.run_noEscape];simp only[Result.andThen];rw[Oper.upon_value];go_wp2;rw[Lib.run_from_unsafe w (cA b 0) underlying165 underlying217 c hsh liesBuilder];simp only[Result.andThen];rw[Oper.upon_value];go_wp2
 go_end0
 exact⟨rfl,rfl⟩
theorem yZ(B b:Nat)(bs:List Value)(w:World)(h:Lib.IsBuilder 219 5 B b bs w):
 jA 207 #[lA b] w fun e w'=>e= .returned (.tuple #[])/\(Lib.BuilderAt 219 5 B b (lA b) bs w'/\Below B w w'):=by
 rcases h with h|h
 ·exact(EX b w h.cell0 h.shape h.frozen0).mono fun e w' ⟨he,hw⟩=>⟨he,hw▸h.used _,hw▸(Below.refl B w).setCell (p:=(cA b 0)) h.1 _⟩
 ·exact(tY b w h.cell0).mono fun e w' ⟨he,hw⟩=>⟨he,hw▸h,hw▸Below.refl B _⟩
theorem y7(B b:Nat)(bs:List Value)(c:Int)(w:World)(h:Lib.IsBuilder 219 5 B b bs w)(hlen:bs.length+1<=140737488355328)(hBw:B<=w.heap.size):
 jA 209 #[lA b,.int .u8 c] w fun e w'=>e= .returned .nilIface/\(Lib.IsBuilder 219 5 B b (bs++[.int .u8 c]) w'/\Below B w w'):=by
 obtain⟨C,D,r,s,t⟩:=info_parts infoByte;go_enter func209,ntmps209;go_wp2_with (go_at_call 207;refine(yZ B b bs _ h).mono ?_);rintro e n ⟨rfl,E,f⟩;obtain⟨z,v,i,m,x⟩:=E;have H:n.cell? (cA b 0)=some (lA b):=(by rw[Lib.cell_of_heap i];rfl);have c1:n.cell? (cA b 1)=some v:=(by rw[Lib.cell_of_heap i];rfl);go_wp2_with (at_builtin;refine wpList_append_own _ rfl _ _ 33 rfl B 5 C (.int .u8 0) 1 1 underlying33 D r s t rfl pA _ _ _ rfl (m.alloc _) ⟨n.heap.size,0,none⟩ 1 1 [.int .u8 c] rfl rfl ?c1 ?c2 ?c3 ?c4 ?c5 ?_)
 case c1=>
  intro j u o
  match j,o with
  |0,o=>simp at o;subst o;simp[Addr.add]
 case c2=>intro u A;simp at A;subst A;rfl
 case c3=>unfold maxLen;omega
 case c4=>omega
 case c5=>have:=f.size;simp;omega
 intro F q a d _;have y:b<n.heap.size:=by
  rcases Nat.lt_or_ge b n.heap.size with h'|h'
  ·exact h'
  ·simp[Array.getElem?_eq_none h'] at i
 have l:q.heap[b]? = some (.cells #[lA b,v] 219 (0,0)):=by
  rw[d.block b jB (fun e=>x e.symm),Lib.alloc_old n _ b y];exact i
 have I:q.cell? (cA b 0)=some (lA b):=(by rw[Lib.cell_of_heap l];rfl);have J:q.cell? (cA b 1)=some v:=(by rw[Lib.cell_of_heap l];rfl);have K:q.frozen? (cA b 1)=false:=Lib.frozen_of_heap l 1;obtain⟨g,cap,rfl⟩:∃g cap,F= .slice (some (cA g 0)) (bs.length+1) cap:=by
  rcases a.2 with⟨_,h0⟩|⟨g,cap,cur,hv,_⟩
  ·omega
  ·exact⟨g,cap,hv⟩
 go_wp2;go_ret;refine⟨rfl,?_,?_⟩
 ·exact Or.inr (Lib.BuilderAt.put (T:=219) (e:=5) z l (bs':=bs++[.int .u8 c]) (by simpa using a) pA)
 ·exact((f.alloc (IA f.size) _).grown d (by have:=f.size;simp;omega) (fun k G=>(m.lt k G).1)).setCell (p:=(cA b 1)) z _
theorem xh(B b:Nat)(bs:List Value)(s:qA)(w:World)(h:Lib.IsBuilder 219 5 B b bs w)(hlen:bs.length+s.size<=140737488355328)(hBw:B<=w.heap.size):
 jA 177 #[lA b,bA s] w fun e w'=>e= .returned (.tuple #[aA s.size,.nilIface])/\(Lib.IsBuilder 219 5 B b (bs++Lib.strCells s) w'/\Below B w w'):=by
 obtain⟨z,A,n,o,q⟩:=info_parts infoByte;go_enter func177,ntmps177;go_wp2_with (go_at_call 207;refine(yZ B b bs _ h).mono ?_);rintro e l ⟨rfl,C,j⟩;obtain⟨u,v,d,i,r⟩:=C;have F:l.cell? (cA b 0)=some (lA b):=(by rw[Lib.cell_of_heap d];rfl);have G:l.cell? (cA b 1)=some v:=(by rw[Lib.cell_of_heap d];rfl);go_wp2_with (at_builtin;refine Lib.wpList_append_own_string _ rfl _ _ 33 9 rfl B 5 z underlying33 underlying9 A n o q _ _ _ rfl i s rfl ?c3 ?c4 ?c5 ?_)
 case c3=>unfold maxLen;omega
 case c4=>omega
 case c5=>have:=j.size;omega
 intro D m a c _;have t:b<l.heap.size:=by
  rcases Nat.lt_or_ge b l.heap.size with h'|h'
  ·exact h'
  ·simp[Array.getElem?_eq_none h'] at d
 have f:m.heap[b]? = some (.cells #[lA b,v] 219 (0,0)):=by
  rw[c.block b t (fun e=>r e.symm)];exact d
 have H:m.cell? (cA b 0)=some (lA b):=(by rw[Lib.cell_of_heap f];rfl);have I:m.cell? (cA b 1)=some v:=(by rw[Lib.cell_of_heap f];rfl);have J:m.frozen? (cA b 1)=false:=Lib.frozen_of_heap f 1;obtain⟨x,y,cap,rfl⟩:∃x y cap,D= .slice x y cap:=by
  rcases a.2 with⟨hv,_⟩|⟨g,cap,cur,hv,_⟩
  ·exact⟨_,_,_,hv⟩
  ·exact⟨_,_,_,hv⟩
 go_wp2;go_ret2;refine⟨rfl,?_,?_⟩
 ·exact Or.inr (Lib.BuilderAt.put (T:=219) (e:=5) u f (bs':=bs++Lib.strCells s) (by simpa[Lib.strCells_length] using a) pA)
 ·exact(j.grown c (IA j.size) (fun k E=>(i.lt k E).1)).setCell (p:=(cA b 1)) u _
def Hc:Go.Shelf.Ren:=⟨fun|169=>135|n=>n,fun|70=>217|9=>9|0=>0|72=>219|37=>33|127=>271|3=>3|5=>5|n=>n,fun|n=>n⟩
theorem Mr:Go.Proofs.Lays.n169 prog Hc:={
 mixed:=by kernel_rfl
 f169:=func135.trans (congrArg some (by kernel_rfl))
 t0:=underlying0
 a0:=isAgg0
 z0:=sizeOf0
 v0:=zeroValue0
 t3:=underlying3
 a3:=isAgg3
 z3:=sizeOf3
 v3:=zeroValue3
 t9:=underlying9
 a9:=isAgg9
 z9:=sizeOf9
 v9:=zeroValue9
 t37:=underlying33
 a37:=isAgg33
 z37:=sizeOf33
 v37:=zeroValue33
 t70:=underlying217
 a70:=isAgg217
 z70:=sizeOf217
 v70:=zeroValue217
 t72:=underlying219
 a72:=isAgg219
 z72:=sizeOf219
 v72:=zeroValue219
 t127:=underlying271
 a127:=isAgg271
 z127:=sizeOf271
 v127:=zeroValue271}
theorem Kn:Builder.Extra prog Hc:={
 sizeBuilder:=by kernel_rfl
 liesBuilder:=by kernel_rfl
 t5:=underlying5
 a5:=isAgg5
 z5:=sizeOf5
 v5:=zeroValue5
 infoByte:=by kernel_rfl
 cellsByte:=by kernel_rfl
 sizeByte:=by kernel_rfl
 neB5:=by decide}
theorem dN(B b:Nat)(l:uA)(w:World)(h:Lib.IsBuilder 219 5 B b (Lib.byteCells l) w)(hBw:B<=w.heap.size):
 jA 135 #[lA b] w fun e w'=>e= .returned (bA ⟨l.toArray⟩)/\Below B w w':=Any.Builder_String_any Mr Kn B b l w h hBw
def qw:Go.Shelf.Ren:=⟨fun|99=>158|206=>184|n=>n,fun|9=>9|4=>4|3=>3|n=>n,fun|n=>n⟩
theorem Gu:Go.Proofs.Lays.n99 prog qw:={
 mixed:=by kernel_rfl
 f99:=func158.trans (congrArg some (by kernel_rfl))
 f206:=func184.trans (congrArg some (by kernel_rfl))
 t3:=underlying3
 a3:=isAgg3
 z3:=sizeOf3
 v3:=zeroValue3
 t4:=underlying4
 a4:=isAgg4
 z4:=sizeOf4
 v4:=zeroValue4
 t9:=underlying9
 a9:=isAgg9
 z9:=sizeOf9
 v9:=zeroValue9}
theorem uY(s p:qA)(w:World):
 jA 158 #[bA s,bA p] w fun e w'=>e= .returned (.bool (Lib.hasPrefix s.data.toList p.data.toList))/\w'=w:=Any.strings_HasPrefix Gu s p w
end Bd
namespace Bd
open Go.RowKit Kd
def QD(w w':World):Prop:=∀(k:Nat) (c:Array Value) (t:TypeId) (fr:Nat×Nat),w.heap[k]? = some (.cells c t fr)->t≠5->t≠219->w'.heap[k]? = some (.cells c t fr)
theorem QD.refl(w:World):QD w w:=fun _ _ _ _ h _ _=>h
theorem QD.trans{w w' w2:World}(h:QD w w')(k:QD w' w2):QD w w2:=fun i c t a e b d=>k i c t a (h i c t a e b d) b d
theorem QD.oB{w w':World}{C:Nat}(h:Below C w w')(hC:w.heap.size<=C):QD w w':=fun i c t b a _ _=>(h.block i (IA (JA a))).trans a
theorem QD.setCell{w w':World}(h:QD w w'){b:Nat}{c:Array Value}{t:TypeId}{fr:Nat×Nat}(hb:w'.heap[b]? = some (.cells c t fr))(ht:t=5\/t=219)(o:Nat)(u:Value):QD w (w'.setCell (cA b o) u):=fun i k l a m f g=>by
 have j:=h i k l a m f g;have d:i≠b:=WA j hb (by rintro rfl;rcases ht with e|e;exact f e;exact g e);exact(Below.heap_setCell w' (cA b o) u i d).trans j
theorem QD.grown{w w1 w2:World}{B n:Nat}{v:Value}{xs:List Value}(h:QD w w1)(hown:w1.ownsRow B 5 1 v n xs)(hg:w1.grownBy w2 v.ownBlock):QD w w2:=fun i c t d f b j=>by
 have a:=h i c t d f b j;refine(hg.block i (JA a) ?_).trans a;intro e;rcases hown.2 with⟨rfl,_⟩|⟨g,cap,cur,rfl,_,hgg,_⟩
 ·cases e
 ·simp only[Value.ownBlock,Option.some.injEq] at e;subst e;rw[hgg] at a;injection a with a;injection a with _ h4;exact b h4.symm
def EH(B b:Nat)(l:uA)(w:World):Prop:=Lib.IsBuilder 219 5 B b (Lib.byteCells l) w
theorem EH.fresh(w:World):EH w.heap.size w.heap.size [] (w.alloc (.cells #[.pointer none,tA] 219)):=Lib.fresh_isBuilder _ _ w
theorem EH.below{B b C:Nat}{l:uA}{w w':World}(h:EH B b l w)(hb:Below C w w')(hC:w.heap.size<=C):EH B b l w':=by
 have key:∀p,Lib.BuilderAt 219 5 B b p (Lib.byteCells l) w->Lib.BuilderAt 219 5 B b p (Lib.byteCells l) w':=by
  rintro p ⟨d,v,a,c,e⟩;exact⟨d,v,(hb.block b (IA (JA a))).trans a,c.kept (row:=none) ⟨hb.os,hb.tape,hb.output,hb.size,fun k f _=>hb.block k dA⟩ (by
   rcases c.2 with⟨rfl,_⟩|⟨g,cap,cur,rfl,_⟩
   ·exact .inl rfl
   ·exact .inr (by simp[Value.ownBlock])),e⟩
 rcases h with h|h
 ·exact .inl (key _ h)
 ·exact .inr (key _ h)
theorem Nr(B b:Nat)(bs:List Value)(w:World)(h:Lib.IsBuilder 219 5 B b bs w):
 jA 207 #[lA b] w fun e w'=>e= .returned (.tuple #[])/\(Lib.BuilderAt 219 5 B b (lA b) bs w'/\Below B w w'/\QD w w'):=by
 rcases h with h|h
 ·refine(EX b w h.cell0 h.shape h.frozen0).mono fun e w' ⟨he,hw⟩=>⟨he,hw▸h.used _,hw▸(Below.refl B w).setCell (p:=(cA b 0)) h.1 _,?_⟩
  subst hw;obtain⟨_,v,a,_⟩:=h;exact(QD.refl w).setCell a (.inr rfl) 0 _
 ·exact(tY b w h.cell0).mono fun e w' ⟨he,hw⟩=>⟨he,hw▸h,hw▸Below.refl B _,hw▸QD.refl _⟩
theorem Ln(B b:Nat)(bs:List Value)(s:qA)(w:World)(h:Lib.IsBuilder 219 5 B b bs w)(hlen:bs.length+s.size<=140737488355328)(hBw:B<=w.heap.size):
 jA 177 #[lA b,bA s] w fun e w'=>e= .returned (.tuple #[aA s.size,.nilIface])/\(Lib.IsBuilder 219 5 B b (bs++Lib.strCells s) w'/\Below B w w'/\QD w w'):=by
 obtain⟨D,E,o,q,r⟩:=info_parts infoByte;go_enter func177,ntmps177;go_wp2_with (go_at_call 207;refine(Nr B b bs _ h).mono ?_);rintro e t ⟨rfl,F,j,l⟩;obtain⟨z,v,i,c,u⟩:=F;have I:t.cell? (cA b 0)=some (lA b):=(by rw[Lib.cell_of_heap i];rfl);have J:t.cell? (cA b 1)=some v:=(by rw[Lib.cell_of_heap i];rfl);go_wp2_with (at_builtin;refine Lib.wpList_append_own_string _ rfl _ _ 33 9 rfl B 5 D underlying33 underlying9 E o q r _ _ _ rfl c s rfl ?c3 ?c4 ?c5 ?_)
 case c3=>unfold maxLen;omega
 case c4=>omega
 case c5=>have:=j.size;omega
 intro G n d a _;have x:b<t.heap.size:=JA i;have f:n.heap[b]? = some (.cells #[lA b,v] 219 (0,0)):=by
  rw[a.block b x (fun e=>u e.symm)];exact i
 have m:=l.grown c a;have K:n.cell? (cA b 0)=some (lA b):=(by rw[Lib.cell_of_heap f];rfl);have L:n.cell? (cA b 1)=some v:=(by rw[Lib.cell_of_heap f];rfl);have M:n.frozen? (cA b 1)=false:=Lib.frozen_of_heap f 1;obtain⟨A,C,cap,rfl⟩:∃A C cap,G= .slice A C cap:=by
  rcases d.2 with⟨hv,_⟩|⟨g,cap,cur,hv,_⟩
  ·exact⟨_,_,_,hv⟩
  ·exact⟨_,_,_,hv⟩
 have y:=Zh m;clear l m;go_wp2;go_ret2;refine⟨rfl,?_,?_,?_⟩
 ·exact Or.inr (Lib.BuilderAt.put (T:=219) (e:=5) z f (bs':=bs++Lib.strCells s) (by simpa[Lib.strCells_length] using d) pA)
 ·exact(j.grown a (IA j.size) (fun k H=>(c.lt k H).1)).setCell (p:=(cA b 1)) z _
 ·exact y.setCell f (.inr rfl) 1 _
def RD(B b:Nat)(l:uA)(w w':World):Prop:=EH B b l w'/\Below B w w'/\QD w w'
theorem RD.trans{B b:Nat}{l m:uA}{w w' w2:World}(h:RD B b l w w')(k:RD B b m w' w2):RD B b m w w2:=⟨k.1,h.2.1.trans k.2.1,h.2.2.trans k.2.2⟩
theorem RD.on{B b C:Nat}{l:uA}{w w' w2:World}(h:RD B b l w w')(hb:Below C w' w2)(hC:w'.heap.size<=C)(hB:B<=w'.heap.size):RD B b l w w2:=⟨h.1.below hb hC,h.2.1.trans (hb.mono dA),h.2.2.trans (QD.oB hb hC)⟩
theorem RD.start{B b:Nat}{l:uA}{w:World}(h:EH B b l w):RD B b l w w:=⟨h,Ze,QD.refl _⟩
theorem RD.alloc{B b:Nat}{l:uA}{w w':World}(h:RD B b l w w')(hB:B<=w'.heap.size)(o:Obj):RD B b l w (w'.alloc o):=h.on ((Below.refl w'.heap.size w').alloc Zl o) Zl hB
theorem RD.size{B b:Nat}{l:uA}{w w':World}(h:RD B b l w w'):w.heap.size<=w'.heap.size:=h.2.1.size
theorem fI(B b:Nat)(l:uA)(s:qA)(w0 w:World)(h:RD B b l w0 w)(hlen:l.length+s.size<=140737488355328)(hBw:B<=w.heap.size):
 jA 177 #[lA b,bA s] w fun e w'=>e= .returned (.tuple #[aA s.size,.nilIface])/\RD B b (l++s.data.toList) w0 w'/\QD w w'/\w.heap.size<=w'.heap.size:=by
 refine(Ln B b _ s w h.1 (by rw[Lib.byteCells_length];exact hlen) hBw).mono ?_;rintro e w' ⟨rfl,d,a,c⟩;refine⟨rfl,h.trans ⟨?_,a,c⟩,c,a.size⟩;unfold EH;rw[Lib.byteCells_append];exact d
theorem C7(B b:Nat)(l:uA)(w:World)(h:EH B b l w)(hBw:B<=w.heap.size):
 jA 135 #[lA b] w fun e w'=>e= .returned (bA ⟨l.toArray⟩)/\Below B w w':=dN B b l w h hBw
end Bd
namespace P21
open Go.ChangeShapes Go.WideShapes Go.RowKit
def tiedL:List (String×DataW Unit):=[("errors.errorType",Rows.laid_errors_errorType)]
def ErrT(w:World):Prop:=w.cell? (cA 0 0)=some (.iface 224 (.agg #[typeHandle prog 26]))
theorem et_name:prog.globalNamed "errors.errorType" = some 0:=by kernel_rfl
theorem et_rtype:(prog.cutTypes.find? (·.1 == "internal/reflectlite.rtype")).map (·.2)=some 224:=by kernel_rfl
theorem et_row:((List.range prog.types.size).filter fun t=>prog.rowNamed t [101,114,114,111,114])=[26]:=by kernel_rfl
theorem errT_of{W:World}(h:laidMetH prog tiedL W):ErrT W:=by
 have c:laidMet prog [] W/\handlesMet prog tiedL W:=h;obtain⟨a,u,d,e,f,g,i,j⟩:=c.2 _ (List.mem_singleton.2 rfl);have k:a=[101,114,114,111,114]:=(Option.some.inj e).symm;subst k;obtain rfl:=Option.some.inj (et_rtype.symm.trans f);have b:d∈(List.range prog.types.size).filter fun t=>prog.rowNamed t [101,114,114,111,114]:=List.mem_filter.2 ⟨List.mem_range.2 g,i⟩
 rw[et_row] at b;obtain rfl:=List.mem_singleton.1 b;unfold ErrT;simpa using World.var?_cell et_name j 0
noncomputable def tiedW (os:Os):World:=
 let w0:=World.holding prog os ⟨#[],#[],[]⟩
 {w0 with heap:=w0.heap.modify 0 fun
  | .cells _ t frozen=> .cells #[.iface 224 (.agg #[typeHandle prog 26])] t frozen
  |o=>o}
theorem tiedW_met(os:Os)(args:Array Value):laidMetH prog tiedL ((tiedW os).forCall (fun _ _=>0) ⟨#[],args,[]⟩).memory:=
 laidMetH_of_parts (laidMet_nil _ _) (by kernel_rfl)
theorem of_change_tied{H:Type}{enc:TypeId×Value->H}{C:Checked}{os:Os}{f:FuncId}{fn:Func}{s:ChangeSpec}{X:World->Prop}
 (hX:∀w w':World,w.heap=w'.heap->X w->X w') (own:ownKnob C.prog.godebug=none) (started:os.Started) (noInit:C.prog.inits.idxOf? f=none) (hfn:C.prog.funcs[f]? = some fn)
 (witness:∃(w:World) (tape:Tape) (i:Input),w.os=os/\(w.forCall tape i).Shaped C.prog/\i.vars=[]/\Input.okWide C.prog (w.forCall tape i) .any w.heap.size f i/\
  ((s.pre enc C.prog fn [] false (w.forCall tape i).memory i.args/\X (w.forCall tape i).memory)/\sizedMet enc C.prog fn (OpenSpec.ofChange s) false (w.forCall tape i).memory i.args)/\({}:Assume).holds C.prog (lone (Frame.enter C.prog f i.args .normal) [] (w.forCall tape i)))
 (walk:∀(W:World) (base:Nat) (args:Array Value) (ds gs:List (DataW H)) (before:List MemPlace),(∀(j:Nat) t v,fn.params[j]? = some t->args[j]? = some v->Value.okWide C.prog W .any base t v)->
  DataW.Whole enc C.prog fn.params.toList s.vars false W args.toList ds gs before->W.ShapedOpen C.prog->X W->
  Calls C.prog f args W fun e W'=>∃v,e= .returned v/\s.post enc C.prog fn false true false false W args v W'):
 ReturnsInHanded {} C os f .any (fun w args=>(s.pre enc C.prog fn [] false w args/\X w)/\sizedMet enc C.prog fn (OpenSpec.ofChange s) false w args) (s.post enc C.prog fn false true false false):=by
 refine returnsInHanded_of_calls own started noInit witness fun w tape i _ a _ g l _=>?_
 obtain⟨⟨⟨ds,gs,before,b,_⟩,hx⟩,_⟩:=l;have c:=g.2.2.2;obtain⟨fn',d,_,_,_,_,k⟩:=c;obtain rfl:fn=fn':=Option.some.inj (hfn.symm.trans d);refine(walk _ _ _ ds gs before k (DataW.Whole.of_heap (w':=w.forCall tape i) (by rfl) b) a (hX _ _ (by rfl) hx)).mono fun e W' ⟨v,he,post⟩=>?_
 subst he;exact ChangeSpec.post_blind post
end P21
namespace P21
open Go.RowKit Go.Extern.Stop Go.Stop Go.Extern
theorem Vk(t:Addr)(w:World):(ReflectliteValue.unpack (.iface 109 (.pointer (some t)))).run prog w= .ok (.agg #[.pointer (some (cA 2 109)),lA w.heap.size,.int .u64 150]) (w.alloc (.cells #[.pointer (some t)] 109)):=by kernel_rfl
theorem Wk(k:Int)(w:World):(ReflectliteValue.unpack (.iface 29 (aA k))).run prog w= .ok (.agg #[.pointer (some (cA 2 29)),lA w.heap.size,.int .u64 130]) (w.alloc (.cells #[aA k] 29)):=by kernel_rfl
theorem Hv(a:Addr)(w:World):(ReflectliteValue.methodAny (ReflectliteValue.valueError "reflectlite.Value.Type" 0) (fun t _ _ _=>ReflectliteType.toType t) #[.agg #[.pointer (some (cA 2 109)),.pointer (some a),.int .u64 150]]).run prog w= .ok (.iface 224 (.agg #[.pointer (some (cA 2 109))])) w:=by kernel_rfl
theorem Pt(h:Value)(w:World):(Go.method 467 224 (.agg #[h]) "Kind").run prog w= .ok (288,h) w:=by kernel_rfl
theorem Qt(h:Value)(w:World):(Go.method 467 224 (.agg #[h]) "Elem").run prog w= .ok (299,.agg #[h]) w:=by kernel_rfl
theorem Rt(h:Value)(w:World):(Go.method 467 224 (.agg #[h]) "Implements").run prog w= .ok (300,.agg #[h]) w:=by kernel_rfl
theorem Iv(h:Value)(w:World):(Go.method 467 224 (.agg #[h]) "AssignableTo").run prog w= .ok (297,.agg #[h]) w:=by kernel_rfl
theorem Tt(w:World):((ReflectliteType.abiMethod fun t=>Functor.map (fun a:Nat=>Value.int IntKind.u8 (a:Int)) (Rtype.kind t)) #[.pointer (some (cA 2 109))]).run prog w= .ok (.int .u8 22) w:=by kernel_rfl
theorem Ut(w:World):((ReflectliteType.abiMethod fun t=>Functor.map (fun a:Nat=>Value.int IntKind.u8 (a:Int)) (Rtype.kind t)) #[.pointer (some (cA 2 29))]).run prog w= .ok (.int .u8 2) w:=by kernel_rfl
theorem Vt(w:World):(ReflectliteType.method ReflectliteType.elem #[.agg #[.pointer (some (cA 2 109))]]).run prog w= .ok (.iface 224 (.agg #[.pointer (some (cA 2 29))])) w:=by kernel_rfl
theorem Jv(w:World):(ReflectliteType.relation "Implements" ReflectliteType.implements_ #[.agg #[.pointer (some (cA 2 29))],.iface 224 (.agg #[.pointer (some (cA 2 26))])]).run prog w= .ok (.bool true) w:=by kernel_rfl
theorem Hp(v:Value)(w:World):(ReflectliteType.typeOf #[.iface 29 v]).run prog w= .ok (.iface 224 (.agg #[.pointer (some (cA 2 29))])) w:=by kernel_rfl
theorem jx(w:World):(ReflectliteType.relation "AssignableTo" ReflectliteType.assignableTo #[.agg #[.pointer (some (cA 2 29))],.iface 224 (.agg #[.pointer (some (cA 2 29))])]).run prog w= .ok (.bool true) w:=by kernel_rfl
theorem Vb(a:Addr)(w:World):(ReflectliteValue.parts (.agg #[.pointer (some (cA 2 109)),.pointer (some a),.int .u64 150])).run prog w= .ok (some (109,a,150)) w:=by kernel_rfl
theorem Ip(a:Addr)(w:World):(ReflectliteValue.parts (.agg #[.pointer (some (cA 2 29)),.pointer (some a),.int .u64 386])).run prog w= .ok (some (29,a,386)) w:=by kernel_rfl
theorem Jp(a:Addr)(w:World):(ReflectliteValue.parts (.agg #[.pointer (some (cA 2 29)),.pointer (some a),.int .u64 130])).run prog w= .ok (some (29,a,130)) w:=by kernel_rfl
theorem Kp(w:World):(Rtype.elem? 109).run prog w= .ok (some 29) w:=by kernel_rfl
theorem Ux(p:Addr)(w:World):(ReflectliteValue.mk 29 p ReflectliteValue.flagAddr).run prog w= .ok (.agg #[.pointer (some (cA 2 29)),.pointer (some p),.int .u64 386]) w:=by kernel_rfl
theorem Lp(w:World):(Rtype.directlyAssignable 29 29).run prog w= .ok true w:=by kernel_rfl
theorem W9(z:Sem Value)(f:TypeId->Addr->Nat->Nat->Sem Value)(v:Value):ReflectliteValue.method z f #[v]=(do match<-ReflectliteValue.parts v with|none=>z|some (t,a,fl)=>f t a fl (fl % 32)):=rfl
theorem Wt(a p:Addr)(W:World)(ha:W.cell? a=some (.pointer (some p))):(ReflectliteValue.method (ReflectliteValue.valueError "reflectlite.Value.IsNil" 0) ReflectliteValue.isNil #[.agg #[.pointer (some (cA 2 109)),.pointer (some a),.int .u64 150]]).run prog W= .ok (.bool false) W:=by
 rw[W9];simp only[Sem.run_bind,Vb,Result.andThen];simp[ReflectliteValue.isNil,loadVar,isAgg,underlying,underlying109,ha,Result.andThen]
theorem Xt(a p:Addr)(W:World)(ha:W.cell? a=some (.pointer (some p))):(ReflectliteValue.method (ReflectliteValue.valueError "reflectlite.Value.Elem" 0) ReflectliteValue.elem #[.agg #[.pointer (some (cA 2 109)),.pointer (some a),.int .u64 150]]).run prog W= .ok (.agg #[.pointer (some (cA 2 29)),.pointer (some p),.int .u64 386]) W:=by
 rw[W9];simp only[Sem.run_bind,Vb,Result.andThen];simp[ReflectliteValue.elem,loadVar,isAgg,underlying,underlying109,ha,Result.andThen,Kp,Ux]
theorem Kv(ta b:Addr)(k:Int)(old:Value)(W:World)(hb:W.cell? b=some (aA k))(ht:W.cell? ta=some old)(hf:W.frozen? ta=false):
 (ReflectliteValue.set #[.agg #[.pointer (some (cA 2 29)),.pointer (some ta),.int .u64 386],.agg #[.pointer (some (cA 2 29)),.pointer (some b),.int .u64 130]]).run prog W= .ok (.tuple #[]) (W.setCell ta (aA k)):=by
 change (ReflectliteValue.parts (.agg #[.pointer (some (cA 2 29)),.pointer (some ta),.int .u64 386]) >>= fun y=>(ReflectliteValue.parts (.agg #[.pointer (some (cA 2 29)),.pointer (some b),.int .u64 130]) >>= fun z=>_)).run prog W=_;simp only[Sem.run_bind,Ip,Jp,Result.andThen];simp[ReflectliteValue.flagAddr,loadVar,isAgg,underlying,underlying29,hb,Result.andThen,Lp,storeVar,Value.cells,storeCells,Addr.add];rw[run_store prog W ta _ _ (by rfl)];simp[ht,hf]
theorem Yt(k:Int)(t:Addr)(old:Value)(w:World)(hg:ErrT w)(ht0:w.cell? t=some old)(hf0:w.frozen? t=false):
 jA 52 #[.iface 29 (aA k),.iface 109 (.pointer (some t))] w fun e w'=>e= .returned (.bool true)/\w'=((((w.alloc (.cells #[.pointer (some t)] 109)).alloc (.cells #[.pointer (some (cA 2 109)),lA w.heap.size,.int .u64 150] 168)).alloc (.cells #[.pointer (some (cA 2 109)),lA w.heap.size,.int .u64 150] 168)).alloc (.cells #[aA k] 29)).setCell t (aA k):=by
 have hg:w.cell? (cA 0 0)=some (.iface 224 (.agg #[.pointer (some (cA 2 26))])):=hg;have d:=@run_callFunc_extern prog 91 _ (fun a=>ReflectliteValue.unpack (a.getD 0 (.tuple #[]))) func91 (by kernel_rfl) (by kernel_rfl) (by kernel_rfl) (by kernel_rfl);have f:=@run_callFunc_extern prog 92 _ (ReflectliteValue.methodAny (ReflectliteValue.valueError "reflectlite.Value.Type" 0) (fun t _ _ _=>ReflectliteType.toType t)) func92 (by kernel_rfl) (by kernel_rfl) (by kernel_rfl) (by kernel_rfl);have g:=@run_callFunc_extern prog 93 _ (ReflectliteValue.method (ReflectliteValue.valueError "reflectlite.Value.IsNil" 0) ReflectliteValue.isNil) func93 (by kernel_rfl) (by kernel_rfl) (by kernel_rfl) (by kernel_rfl);have i:=@run_callFunc_extern prog 288 _ (ReflectliteType.abiMethod fun t=>do pure (.int .u8 (<-Rtype.kind t))) func288 (by kernel_rfl) (by kernel_rfl) (by kernel_rfl) (by kernel_rfl);have j:=@run_callFunc_extern prog 299 _ (ReflectliteType.method ReflectliteType.elem) func299 (by kernel_rfl) (by kernel_rfl) (by kernel_rfl) (by kernel_rfl);have l:=@run_callFunc_extern prog 300 _ (ReflectliteType.relation "Implements" ReflectliteType.implements_) func300 (by kernel_rfl) (by kernel_rfl) (by kernel_rfl) (by kernel_rfl);have m:=@run_callFunc_extern prog 137 _ (ReflectliteType.typeOf) func137 (by kernel_rfl) (by kernel_rfl) (by kernel_rfl) (by kernel_rfl);have n:=@run_callFunc_extern prog 297 _ (ReflectliteType.relation "AssignableTo" ReflectliteType.assignableTo) func297 (by kernel_rfl) (by kernel_rfl) (by kernel_rfl) (by kernel_rfl);have o:=@run_callFunc_extern prog 138 _ (ReflectliteValue.method (ReflectliteValue.valueError "reflectlite.Value.Elem" 0) ReflectliteValue.elem) func138 (by kernel_rfl) (by kernel_rfl) (by kernel_rfl) (by kernel_rfl);have p:=@run_callFunc_extern prog 139 _ (ReflectliteValue.set) func139 (by kernel_rfl) (by kernel_rfl) (by kernel_rfl) (by kernel_rfl);have x:=Wt ⟨w.heap.size,0,none⟩ t ((w.alloc (.cells #[.pointer (some t)] 109)).alloc (.cells #[.pointer (some (cA 2 109)),lA w.heap.size,.int .u64 150] 168)) FA;have c:0<w.heap.size:=World.block_lt_of_cell? w (cA 0 0) hg;have q:((w.alloc (.cells #[.pointer (some t)] 109)).alloc (.cells #[.pointer (some (cA 2 109)),lA w.heap.size,.int .u64 150] 168)).cell? (cA 0 0)=some (.iface 224 (.agg #[.pointer (some (cA 2 26))])):=by
  rw[World.cell?_alloc_lt _ _ (cA 0 0) (by simp<;>omega),World.cell?_alloc_lt _ _ (cA 0 0) c];exact hg
 have b:t.block<w.heap.size:=World.block_lt_of_cell? w t ht0;have y:=Xt ⟨w.heap.size,0,none⟩ t (((w.alloc (.cells #[.pointer (some t)] 109)).alloc (.cells #[.pointer (some (cA 2 109)),lA w.heap.size,.int .u64 150] 168)).alloc (.cells #[.pointer (some (cA 2 109)),lA w.heap.size,.int .u64 150] 168)) (by rw[World.cell?_alloc_lt _ _ ⟨w.heap.size,0,none⟩ jB];simp);have z:=Kv t ⟨w.heap.size+1+1+1,0,none⟩ k old ((((w.alloc (.cells #[.pointer (some t)] 109)).alloc (.cells #[.pointer (some (cA 2 109)),lA w.heap.size,.int .u64 150] 168)).alloc (.cells #[.pointer (some (cA 2 109)),lA w.heap.size,.int .u64 150] 168)).alloc (.cells #[aA k] 29)) (by rw[World.cell?_alloc_at _ _ _ _ FA];rfl)
  (by rw[World.cell?_alloc_lt _ _ t jB,World.cell?_alloc_lt _ _ t jB,World.cell?_alloc_lt _ _ t jB,World.cell?_alloc_lt _ _ t b];exact ht0)
  (by rw[World.frozen?_alloc_old _ _ t jB,World.frozen?_alloc_old _ _ t jB,World.frozen?_alloc_old _ _ t jB,World.frozen?_alloc_old _ _ t (Nat.ne_of_lt b)];exact hf0)
 have A:=Vk;have B:=Wk;have C:=Hv;have D:=Pt;have E:=Qt;have F:=Rt;have G:=Iv;have H:=Tt;have I:=Ut;have r:=Vt;have s:=Jv;have u:=Hp;have v:=jx;clear hg ht0 hf0;go_enter func52,ntmps52;go_wp2;refine wp_loop_rounds 1 ?_;rw[rounds_succ];go_wp2;go_ret;exact⟨rfl,rfl⟩
end P21
end Go.Proofs.YtimfajmknmlajaaGreatDoor
