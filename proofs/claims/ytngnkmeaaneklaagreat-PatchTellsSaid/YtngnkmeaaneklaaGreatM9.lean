/- A part of the proof. No condition. -/
import Derived.Deep.RegionHeld3
import Derived.Deep.DeepCutAuto
import Derived.Deep.CutBlock
import Derived.Deep.Cut
import Derived.DeepKeys4
import Derived.Deep.LoopGhost
import Derived.Test.YtngnkmeaaneklaaGreatM1
import Derived.Test.YtngnkmeaaneklaaGreatM4
import Derived.Test.YtngnkmeaaneklaaGreatM5
import Derived.Test.YtngnkmeaaneklaaGreatM6
set_option linter.unusedVariables false
set_option linter.unusedSimpArgs false
set_option maxRecDepth 100000
set_option maxHeartbeats 40000000
namespace Go.Proofs.YtngnkmeaaneklaaGreat
open Tryz
namespace P5
open Go.RowKit Kd P4
variable{B p:Nat}{x:Dx}
variable{B p:Nat}{x:Dx}
end P5
namespace P14
open Go.RowKit Kd P4 P5 P11 P12 P13
theorem U1{t:WV}{l:List WV}(h:t∈l):JC (oA t.kids)+1<=JC (oA l):=by
 have a:=tU (l:=oA l) (t:=er t) (by rw[IB];exact List.mem_map_of_mem h);rw[TE,fF] at a;omega
theorem MY(t:WV):aG (er t)=if t.kind=2 then 1 else if t.kind=1 then 1+fB (oA t.kids) else 0:=by rw[TE,aG]
def vR(ts:List WV):Prop:=∀(w:World) (A:jA) (n c:Nat),kQ.pA w w.heap.size A ts->ts.length=n->(∀t∈ts,MC kQ w w.heap.size t)->JC (oA ts)<=100000->
 fA 31 #[.slice A n c] w fun e w'=>e= .returned (aA (fB (oA ts):Nat))/\eA w w'
theorem I9(ts:List WV)(IH:∀t∈ts,vR t.kids):vR ts:=by
 intro w A n c K v j L;have Q:=Zh K;have R:=Zh v;have S:=Zh j;have T:=Zh IH;have y:Hid ((oA ts).length=n):=Zh (by rw[IB];simpa using v);have M:Hid (∀k,fB ((oA ts).take k)<=100000):=Zh (fun k=>by
  have r:=uU ((oA ts).take k);have s:JC (oA ts)=JC ((oA ts).take k)+JC ((oA ts).drop k):=(by rw[<-uS,List.take_append_drop]);omega)
 have U:=Zh L;have V:n<=100000:=(by have:=aL (oA ts);have:=y.out;omega);clear K v j L IH;go_enter func31,ntmps31;go_wp2_with fail;go_loopw [3,4] (fun W z wr=>∃(k:Nat),k<=n/\z = aA k/\W = aA (fB ((oA ts).take k):Nat)/\Hid (eA w wr)) (fun _ z _=>n-(intOf z).toNat)
 case atStart=>exact⟨0,by omega,rfl,by simp[fB],Zh Ze⟩
 case round=>
  obtain⟨k,hk,rfl,rfl,i⟩:=hrel;by_cases X:k<n
  ·have g:k<ts.length:=(uA R.out);have l:k<(oA ts).length:=(uA y.out);have a:=Zh (BP l);rw[uO g l,MY] at a;have B:=M k;have f:=M (k+1);obtain⟨b,o,rfl,N,p,C,D,E,F,q⟩:=qT Q g;have G:Hid (∀u,eA w u->u.cell? ⟨b,o+k*6,none⟩=some (aA ts[k].kind)/\u.cell? ⟨b,o+k*6+5,none⟩=some (.slice ts[k].sk.A ts[k].sk.n ts[k].sk.c)):=Zh (fun u h=>⟨(h.cell N).trans p,(h.cell N).trans q⟩);obtain⟨O,Y⟩:=G wr i;have H:Hid (fA 31 #[.slice ts[k].sk.A ts[k].sk.n ts[k].sk.c] wr fun e w'=>e= .returned (aA (fB (oA ts[k].kids):Nat))/\eA wr w'):=Zh (by
    have I:=(S _ (List.getElem_mem g)).on i;exact T _ (List.getElem_mem g) wr _ _ _ I.kh I.kl I.ks (by have:=U1 (List.getElem_mem g);have:=U.out;omega))
   clear p C D E F q;generalize ts[k]=d at O Y G H a;generalize fB (oA d.kids)=dk at H a;generalize fB ((oA ts).take k)=m at a B|-;rw[a.out] at f;obtain⟨kind,J⟩:=qA d.kind;rw[J] at O a f G;by_cases s:kind=2
   ·subst s;rw[if_pos rfl] at a f;go_wp2_with fail;go_roundw
    case rel=>exact⟨k+1,by omega,by go_num,by rw[a.out];go_num,i⟩
    case measure=>simp[intOf];omega
   ·have q2:=int_ne s;rw[if_neg s] at a f;by_cases r:kind=1
    ·subst r;rw[if_pos rfl] at a f;go_wp2_with fail;refine H.mono ?_;rintro e w2 ⟨rfl,P⟩;have Z:=Zh (i.trans (P.mono i.size));clear P;go_wp2_with fail;go_roundw
     case rel=>exact⟨k+1,by omega,by go_num,by rw[a.out];congr 1;omega,Z⟩
     case measure=>simp[intOf];omega
    ·have q1:=int_ne r;rw[if_neg r] at a f;go_wp2_with fail;go_roundw
     case rel=>exact⟨k+1,by omega,by go_num,by rw[a.out];rfl,i⟩
     case measure=>simp[intOf];omega
  ·obtain rfl:k=n:=cA
   go_wp2_with fail;go_ret;exact⟨by rw[List.take_of_length_le (uA y.out)];rfl,i⟩
theorem Fh:∀t:WV,vR t.kids:=by
 intro t
 induction t using WV.ind with
 |h kind tag key txt sa attrs sk kids ih=>exact I9 kids ih
theorem Zk(ts:List WV):vR ts:=I9 ts (fun t _=>Fh t)
end P14
namespace P16
open Go.RowKit Kd P4 P5 P11 P12 P13 P14
theorem yl(t:WV)(o:Ol)(f:Bool):EC (er t) o f=(if t.kind=1 then bq o.tag t.tag&&bq o.key t.key&&(f || !t.key.toList.isEmpty) else if t.kind=2 then f&&o.tag.toList.isEmpty else if t.kind=3 then f else false):=by rw[TE];rfl
theorem Mh(t:WV)(ob:Ol)(f:Bool)(w:World):fA 97 #[.agg #[aA t.kind,bA t.tag,bA t.key,bA t.txt,.slice t.sa.A t.sa.n t.sa.c,.slice t.sk.A t.sk.n t.sk.c],.agg #[bA ob.tag,bA ob.key],.bool f] w fun e w'=>e= .returned (.bool (EC (er t) ob f))/\eA w w':=by
 rw[yl];obtain⟨tag,key⟩:=ob;obtain⟨kind,d,a,g,sa,B,sk,E⟩:=t;simp only[WV.kind,WV.tag,WV.key,WV.txt,WV.sa,WV.sk];obtain⟨A,n,c⟩:=sa;obtain⟨i,j,k⟩:=sk;have l:Hid (eA w ((w.alloc (.cells #[aA kind,bA d,bA a,bA g,.slice A n c,.slice i j k] 117)).alloc (.cells #[bA tag,bA key] 122))):=Zh ((Zb _ _).alloc DA _);have m:Hid (((w.alloc (.cells #[aA kind,bA d,bA a,bA g,.slice A n c,.slice i j k] 117)).alloc (.cells #[bA tag,bA key] 122)).heap[w.heap.size]? = some (.cells #[aA kind,bA d,bA a,bA g,.slice A n c,.slice i j k] 117 (0,0))):=Zh (oB (heap_alloc_new w _));have o:Hid (((w.alloc (.cells #[aA kind,bA d,bA a,bA g,.slice A n c,.slice i j k] 117)).alloc (.cells #[bA tag,bA key] 122)).heap[w.heap.size+1]? = some (.cells #[bA tag,bA key] 122 (0,0))):=Zh (by
  have:=heap_alloc_new (w.alloc (.cells #[aA kind,bA d,bA a,bA g,.slice A n c,.slice i j k] 117)) (.cells #[bA tag,bA key] 122);simpa using this)
 go_enter func97,ntmps97;go_upto_region 1 with fail;generalize (w.alloc (.cells #[aA kind,bA d,bA a,bA g,.slice A n c,.slice i j k] 117)).alloc (.cells #[bA tag,bA key] 122)=W at l m o|-;have F:=IA 0 m;have G:=IA 1 m;have H:=IA 2 m;have I:=IA 0 o;have J:=IA 1 o;obtain⟨x,p⟩:=qA ((tag.toList==d.toList));obtain⟨y,q⟩:=qA ((key.toList==a.toList));obtain⟨z,r⟩:=qA a.toList.isEmpty;obtain⟨C,D⟩:=qA tag.toList.isEmpty;by_cases s:kind=1
 ·subst s;have K:Hid ((if(1:Int)=1 then bq tag d&&bq key a&&(f || !a.toList.isEmpty) else if(1:Int)=2 then f&&tag.toList.isEmpty else if(1:Int)=3 then f else false)=(x&&y&&(f || !z))):=Zh (by rw[if_pos rfl,bq,bq,p,q,r]);cases x<;>cases y<;>cases f<;>cases z
  all_goals
   go_wp2_with fail;go_ret;exact⟨by first|rfl|(simp_all [bq]),l⟩
 ·have L:=int_ne s;by_cases u:kind=2
  ·subst u;cases C<;>cases f
   all_goals
    go_wp2_with fail;go_ret;exact⟨by first|rfl|(simp_all),l⟩
  ·have M:=int_ne u;by_cases v:kind=3
   ·subst v;go_wp2_with fail;go_ret;exact⟨by simp,l⟩
   ·have N:=int_ne v;go_wp2_with fail;go_ret;exact⟨by simp[s,u,v],l⟩
def Ht(w:World)(a b d:List Int)(e:Ending)(w':World):Prop:=∃(A1:jA) (n1 c1:Nat) (A2:jA) (n2 c2:Nat) (A3:jA) (n3 c3:Nat),e= .returned (.tuple #[.slice A1 n1 c1,.slice A2 n2 c2,.slice A3 n3 c3])/\
 kI.Own w' w.heap.size (.slice A1 n1 c1) a/\kI.Own w' w.heap.size (.slice A2 n2 c2) b/\kI.Own w' w.heap.size (.slice A3 n3 c3) d/\eA w w'
def xR(w:World)(g n:Nat)(old:List Ol)(ws:List PW)(s9 s10 s11:Value)(wr:World):Prop:=∃(j:Nat) (A1:jA) (n1 c1:Nat) (A2:jA) (n2 c2:Nat),j<=ws.length/\s11 = aA j/\s9= .slice A1 n1 c1/\s10= .slice A2 n2 c2/\
 Hid (cE.Own wr w.heap.size (.slice (some (dA g 0)) n n) (foldM old (ws.take j)).left)/\Hid (kI.Own wr w.heap.size (.slice A1 n1 c1) (foldM old (ws.take j)).take)/\Hid (kI.Own wr w.heap.size (.slice A2 n2 c2) (foldM old (ws.take j)).kept)/\Hid (gE (.slice A1 n1 c1) (.slice A2 n2 c2))/\Hid (eA w wr)
def ec(W:World)(C g n:Nat)(left1:List Bool)(kept0 take1:List Int)(v9:Value)(s10 s15:Value)(wr:World):Prop:=∃(k:Nat) (A2:jA) (n2 c2:Nat),k<=n/\s15 = aA k/\s10= .slice A2 n2 c2/\
 Hid (cE.Own wr C (.slice (some (dA g 0)) n n) (WD left1 k))/\Hid (kI.Own wr C (.slice A2 n2 c2) (kept0++kD left1 k))/\Hid (kI.Own wr C v9 take1)/\Hid (gE v9 (.slice A2 n2 c2))/\Hid (Below C W wr)
theorem aP{w:World}{B B' g n:Nat}{v u:Value}{l:List Int}{m:List Bool}(h:kI.Own w B v l)(hb:cE.Own w B' (.slice (some (dA g 0)) n n) m)(k:Nat):kI.Own (w.setCell (dA g k) u) B v l:=
 h.but (mH w g k u) (fun i a e=>Kind.Own.KV h hb nA i a (by rw[e];rfl))
theorem Nh(old:List Ol)(ts:List WV)(A:jA)(n c:Nat)(A':jA)(n' c':Nat)(w:World)(hh:kU.pA w w.heap.size A old)(hn:old.length=n)(hl:n<=1000)(hh':kQ.pA w w.heap.size A' ts)(hn':ts.length=n')(hl':n'<=1000):
 fA 63 #[.slice A n c,.slice A' n' c'] w (Ht w (foldM old (oA ts)).take (foldM old (oA ts)).kept (kD (foldM old (oA ts)).left old.length)):=by
 have KH:=Zh hh;have T:=Zh hn;have bb:=Zh hh';have bc:=Zh hn';have EL:Hid ((oA ts).length=n'):=Zh (by rw[IB];simpa using hn');obtain⟨wm,E,ac,ap⟩:=Mf w w.heap.size n Zl cA;have BM:Hid (eA w wm):=Zh (Ze.grown ap Zl (fun k hk=>by cases hk));obtain⟨g,hg⟩:∃g,g=w.heap.size:=⟨_,rfl⟩;rw[<-hg] at E;have OM:Hid (cE.Own wm w.heap.size (.slice (some (dA g 0)) n n) (List.replicate n false)):=Zh (by rw[hg];exact ac);have HG:=Zh hg;clear hh hn hh' hn' ac ap hg;go_enter func63,ntmps63;go_wp2_with fail;go_loopw [8] (fun s wr=>∃(k:Nat),k<=n/\s = aA k/\Hid (cE.Own wr w.heap.size (.slice (some (dA g 0)) n n) (List.replicate k true++List.replicate (n-k) false))/\Hid (eA w wr)) (fun s _=>n-(intOf s).toNat)
 case atStart=>exact⟨0,by omega,rfl,Zh (by simpa using OM.out),BM⟩
 case round=>
  obtain⟨k,hk,rfl,HO,HB⟩:=hrel;clear E;by_cases bw:k<n
  ·have OB:=eK HO (k:=k) AA;obtain⟨U,f0,V⟩:=OB;have bd:Hid (cE.Own (wr.setCell (dA g k) (.bool true)) w.heap.size (.slice (some (dA g 0)) n n) (List.replicate (k+1) true++List.replicate (n-(k+1)) false)):=Zh (by
    have:=V true;obtain⟨r,hr⟩:∃r,n-k=r+1:=⟨n-k-1,by omega⟩;rw[hr,List.set_append_right _ _ DA,List.length_replicate,Nat.sub_self,List.replicate_succ,List.set_cons_zero] at this;rw[show n-(k+1)=r by omega,List.replicate_succ',List.append_assoc];exact this)
   have be:Hid (eA w (wr.setCell (dA g k) (.bool true))):=Zh (HB.trans ((mH wr g k _).AB (fun i _ H=>by have:=HG.out;omega) HB.size));clear V OM BM;go_wp2_with fail;go_roundw
   case rel=>exact⟨k+1,by omega,by go_num,bd,be⟩
   case measure=>simp[intOf];omega
  ·obtain rfl:k=n:=cA
   have I:Hid (cE.Own wr w.heap.size (.slice (some (dA g 0)) k k) (foldM old ((oA ts).take 0)).left):=Zh (by
    have:=HO.out;simp only[Nat.sub_self,List.replicate_zero,List.append_nil] at this;rw[List.take_zero];show cE.Own wr w.heap.size _ (List.replicate old.length true);rw[T.out];exact this)
   have ST:Hid (xR w g k old (oA ts) (vA) (vA) (aA 0) wr):=Zh ⟨0,none,0,0,none,0,0,by omega,rfl,rfl,rfl,I,Zh (Kind.Own.nil kI wr _),Zh (Kind.Own.nil kI wr _),Zh (fun g hg=>by cases hg),HB⟩;clear HO I OM BM;go_wp2_with fail;go_loopw [9,10,11] (fun s9 X ae wr=>xR w g k old (oA ts) s9 X ae wr) (fun _ _ ae _=>n'-(intOf ae).toNat)
   case atStart=>exact ST
   case round=>
    obtain⟨j,A1,n1,c1,A2,n2,c2,hj,rfl,rfl,rfl,HL,J,K,aq,P⟩:=hrel;clear ST HB;rw[EL.out] at hj;have Y:=wN old ((oA ts).take j);have Q:=aX old ((oA ts).take j);by_cases bx:j<n'
    ·have af:j<ts.length:=(uA bc.out);have ag:j<(oA ts).length:=(uA EL.out);have SN:=Zh (pP (old:=old) ag);rw[uO af ag] at SN;rw[List.length_take] at Y;generalize foldM old ((oA ts).take j)=s at HL J K SN Y Q;obtain⟨left,take,kept⟩:=s;simp only at HL J K SN Y Q;have F:left.length=k:=(uA T.out);have ar:take.length<=1000:=cA;have ad:kept.length<=1000000:=by
      have h1:min j (oA ts).length*old.length<=1000*1000:=Nat.mul_le_mul cA (uA T.out);omega
     have bf:=Zh ar;have au:=Zh ad;have G:=Zh F;clear Y Q ar ad F;obtain⟨C,D,rfl,R,y0,y1,y2,y3,y4,y5⟩:=qT bb af;have GW:Hid (∀y,eA w y->y.cell? ⟨C,D+j*6,none⟩=some (aA ts[j].kind)/\y.cell? ⟨C,D+j*6+1,none⟩=some (bA ts[j].tag)/\y.cell? ⟨C,D+j*6+2,none⟩=some (bA ts[j].key)/\y.cell? ⟨C,D+j*6+3,none⟩=some (bA ts[j].txt)/\y.cell? ⟨C,D+j*6+4,none⟩=some (.slice ts[j].sa.A ts[j].sa.n ts[j].sa.c)/\y.cell? ⟨C,D+j*6+5,none⟩=some (.slice ts[j].sk.A ts[j].sk.n ts[j].sk.c)):=Zh (fun y h=>⟨(h.cell R).trans y0,(h.cell R).trans y1,(h.cell R).trans y2,(h.cell R).trans y3,(h.cell R).trans y4,(h.cell R).trans y5⟩);clear y0 y1 y2 y3 y4 y5 ag;have ah:Hid ((er ts[j]).kind=ts[j].kind):=Zh (by rw[TE];rfl);generalize ts[j]=t at GW SN ah;clear af;obtain⟨W,rfl⟩:∃W:World,W=wr:=⟨_,rfl⟩;obtain⟨q,ai⟩:=qA ((ZA (er t) old left old.length).1);have aw:=Zh ai;have aj:Hid ((t.kind=4->foldM old ((oA ts).take (j+1))=⟨List.replicate old.length false,take++[q],kept++kD (AE left q) old.length⟩)/\(¬t.kind=4->foldM old ((oA ts).take (j+1))=⟨AE left q,take++[q],kept⟩)):=Zh (by
      rw[SN.out,pF,ah.out];simp only[ai];exact⟨fun h=>by rw[if_pos h],fun h=>by rw[if_neg h]⟩)
     clear ai SN ah;have ax:Hid (∃(m:Nat),m<=k/\(Value.int .i64 0) = aA (m:Int)/\(Value.int .i64 (-1)) = aA (ZA (er t) old left m).1/\(Value.bool true)= .bool (ZA (er t) old left m).2/\Hid (eA W W)):=Zh ⟨0,by omega,rfl,rfl,rfl,Zh Ze⟩
     go_upto_block 4 with fail
     go_cut [12] (fun ak wx=>ak = aA q/\Hid (eA W wx))
     case first=>
      go_wp2_with fail;go_loopw [12,13,14] (fun ak bg al wr=>∃(m:Nat),m<=k/\al = aA (m:Int)/\ak = aA (ZA (er t) old left m).1/\bg= .bool (ZA (er t) old left m).2/\Hid (eA W wr)) (fun _ _ al _=>k-(intOf al).toNat)
      case atStart=>exact ax
      case round=>
       obtain⟨m,hm,rfl,rfl,rfl,z⟩:=hrel;clear ax;have a5:=mS (er t) old left m;by_cases E:m<k/\¬0<=(ZA (er t) old left m).1
       ·obtain⟨E,Z⟩:=E;have p:m<old.length:=(uA T.out);have f:m<left.length:=(uA G.out);have OB:=eK (HL.below z Zl) (k:=m) f;obtain⟨U,f0,_⟩:=OB;have S1:Hid (left[m]=false->ZA (er t) old left (m+1)=ZA (er t) old left m):=Zh (fun e=>ZW Z (by rw[List.getElem?_eq_getElem f,e]));have S2:Hid (left[m]=true->ZA (er t) old left (m+1)=(if EC (er t) old[m] (ZA (er t) old left m).2 then(m:Int) else -1,false)):=Zh (fun e=>xS Z (List.getElem?_eq_getElem p) (by rw[List.getElem?_eq_getElem f,e]));have ev:(ZA (er t) old left m).1 = -1:=a5.2.2 cA;obtain⟨bo,oo,rfl,ay,az,b0⟩:=Lh KH p;have L:=Zh (P.trans (z.mono P.size));have z0:=(L.cell ay).trans az;have z1:=(L.cell ay).trans b0;obtain⟨y0,y1,y2,y3,y4,y5⟩:=GW wr L;clear az b0 f0;have bh:=Zh ev;generalize left[m]=lb at U S1 S2;generalize old[m]=ob at z0 z1 S2;generalize b1:(ZA (er t) old left m).2=fs at S2;have bi:=Zh b1;rw[ev];clear Z ev a5 f b1 p;cases lb with
        |false=>
         have S3:=Zh (S1 rfl);go_wp2_with fail;go_roundw
         case rel=>exact⟨m+1,by omega,by go_num,by rw[S3.out,bh.out],by rw[S3.out,bi.out],z⟩
         case measure=>simp[intOf];omega
        |true=>
         have S3:=Zh (S2 rfl);have CT:Hid (∀O,eA wr O->fA 97 #[.agg (mC t),.agg #[bA ob.tag,bA ob.key],.bool fs] O fun e w'=>e= .returned (.bool (EC (er t) ob fs))/\eA O w'):=Zh (fun O _=>Mh t ob fs O);generalize EC (er t) ob fs=tb at CT S3;have b2:Hid (∀y,eA wr y->y.cell? ⟨C,D+j*6,none⟩=some (aA t.kind)/\y.cell? ⟨C,D+j*6+1,none⟩=some (bA t.tag)/\y.cell? ⟨C,D+j*6+2,none⟩=some (bA t.key)/\y.cell? ⟨C,D+j*6+3,none⟩=some (bA t.txt)/\y.cell? ⟨C,D+j*6+4,none⟩=some (.slice t.sa.A t.sa.n t.sa.c)/\y.cell? ⟨C,D+j*6+5,none⟩=some (.slice t.sk.A t.sk.n t.sk.c)/\y.cell? ⟨bo,oo+m*2,none⟩=some (bA ob.tag)/\y.cell? ⟨bo,oo+m*2+1,none⟩=some (bA ob.key)):=Zh (fun y h=>by
          have hz:=L.trans (h.mono L.size);obtain⟨x0,x1,x2,x3,x4,x5⟩:=GW y hz;exact⟨x0,x1,x2,x3,x4,x5,(h.cell (show bo<wr.heap.size by have:=L.size;omega)).trans z0,(h.cell (show bo<wr.heap.size by have:=L.size;omega)).trans z1⟩)
         go_upto_region 17 with fail;have SK:=b2 wr Ze;go_region_held3 (fun w'=>w'.cell? ⟨C,D+j*6,none⟩=some (aA t.kind)/\w'.cell? ⟨C,D+j*6+1,none⟩=some (bA t.tag)/\w'.cell? ⟨C,D+j*6+2,none⟩=some (bA t.key)/\w'.cell? ⟨C,D+j*6+3,none⟩=some (bA t.txt)/\w'.cell? ⟨C,D+j*6+4,none⟩=some (.slice t.sa.A t.sa.n t.sa.c)/\w'.cell? ⟨C,D+j*6+5,none⟩=some (.slice t.sk.A t.sk.n t.sk.c)/\w'.cell? ⟨bo,oo+m*2,none⟩=some (bA ob.tag)/\w'.cell? ⟨bo,oo+m*2+1,none⟩=some (bA ob.key)) (first|go_keep|exact SK) ((first
          |(go_at_call 97;refine(CT _ sF).mono ?_;rintro e w10 ⟨rfl,a6⟩;have a0:eA wr w10:=(by first|exact(PA Ze _).trans a6|exact(Ze.drew).trans a6|exact a6);have b3:=Zh (z.trans (a0.mono z.size));have SK:=b2 w10 a0;clear a6 a0)
          |fail))
         clear z0 z1 y0 y1 y2 y3 y4 y5;cases tb with
         |true=>
          go_wp2_with fail;go_roundw
          case rel=>exact⟨m+1,by omega,by go_num,by rw[S3.out];rfl,by rw[S3.out],b3⟩
          case measure=>simp[intOf];omega
         |false=>
          go_wp2_with fail;go_roundw
          case rel=>exact⟨m+1,by omega,by go_num,by rw[S3.out];rfl,by rw[S3.out],b3⟩
          case measure=>simp[intOf];omega
       ·have HE:Hid ((ZA (er t) old left old.length).1=(ZA (er t) old left m).1):=Zh (by
         by_cases h:0<=(ZA (er t) old left m).1
         ·have:=gP h (old.length-m);rw[show m+(old.length-m)=old.length by have:=T.out;omega] at this;rw[this]
         ·rw[show m=old.length by have:=T.out;omega])
        rw[aw.out] at HE;by_cases b4:m<k
        ·have h0:0<=(ZA (er t) old left m).1:=by
          rcases Classical.em (0<=(ZA (er t) old left m).1) with h|h
          ·exact h
          ·exact absurd ⟨b4,h⟩ E
         generalize (ZA (er t) old left m).1=a1 at HE h0 a5|-;go_wp2_with fail;go_meet;exact⟨by rw[HE.out],z⟩
        ·generalize (ZA (er t) old left m).1=a1 at HE a5|-;go_wp2_with fail;go_meet;exact⟨by rw[HE.out],z⟩
     case rest=>
      obtain⟨rfl,z⟩:=hcut;obtain⟨w5,rfl⟩:∃x,x=wc:=⟨_,rfl⟩;have a7:=(mS (er t) old left old.length);rw[aw.out,T.out] at a7;have bu:=a7.1;have bv:=a7.2.1;clear a7;have L5:=Zh (HL.below z Zl);have T5:=Zh (J.below z Zl);have K5:=Zh (K.below z Zl);have B5:=Zh (P.trans (z.mono P.size))
      go_upto_if 63 with fail
      go_cut [] (fun wx=>Hid (cE.Own wx w.heap.size (.slice (some (dA g 0)) k k) (AE left q))/\Hid (kI.Own wx w.heap.size (.slice A1 n1 c1) take)/\Hid (kI.Own wx w.heap.size (.slice A2 n2 c2) kept)/\Hid (eA w wx))
      case first=>
       by_cases h0:0<=q
       ·obtain⟨a,rfl⟩:∃a:Nat,q=a:=⟨q.toNat,by omega⟩;have b5:a<left.length:=(uA G.out);have bz:a<k:=(uA G.out);obtain⟨U,f0,V⟩:=eK L5 b5;have e:AE left (a:Int)=left.set a false:=(by rw[AE,if_pos h0];rfl);have bj:Hid (cE.Own (w5.setCell (dA g a) (.bool false)) w.heap.size (.slice (some (dA g 0)) k k) (AE left (a:Int))):=Zh (by rw[e];exact V false);have T6:=Zh (aP (u:=.bool false) T5 L5 a);have K6:=Zh (aP (u:=.bool false) K5 L5 a);have B6:Hid (eA w (w5.setCell (dA g a) (.bool false))):=Zh (B5.trans ((mH w5 g a _).AB (fun i _ H=>by have:=HG.out;omega) B5.size));generalize left[a]=lv at U;clear V e b5;go_wp2_with fail;go_meet;exact⟨bj,T6,K6,B6⟩
       ·have e:AE left q=left:=(by rw[AE,if_neg h0]);go_wp2_with fail;go_meet;exact⟨by rw[e];exact L5,T5,K5,B5⟩
      case rest=>
       obtain⟨L6,T6,K6,B6⟩:=hcut;obtain⟨w6,rfl⟩:∃x,x=wc:=⟨_,rfl⟩;have bk:=B6.size;clear L5 T5 K5 B5;have LD:Hid (kI.pA (w6.alloc (.cells #[aA q] 3)) (w6.heap.size+1) (some ⟨w6.heap.size,0,none⟩) [q]):=Zh (Kind.pA.lit (heap_alloc_new w6 _) rfl);have LL:Hid ((AE left q).length=k):=Zh (by rw[kY,G.out]);go_upto_region 24 with(at_builtin;refine kI.iC rfl _ _ rfl (v:=.slice A1 n1 c1) (l:=take) (m:=[q]) (B:=w.heap.size) rfl (T6.alloc _) rfl rfl RB LD (by have:=bf.out;simp;omega) AA ?_;intro v' w7 o d M;have B7:Hid (eA w w7):=Zh ((B6.alloc bk _).grown d AA (fun i H=>(T6.lt H).1));have L7:Hid (cE.Own w7 w.heap.size (.slice (some (dA g 0)) k k) (AE left q)):=Zh ((L6.alloc _).grown d (fun i H e=>(Kind.Own.KV L6 T6 nA) i H e));have K7:Hid (kI.Own w7 w.heap.size (.slice A2 n2 c2) kept):=Zh ((K6.alloc _).grown d (fun i H e=>aq i e H));have b6:=Zh (wW aq K6 M);obtain⟨A7,n7,c7,rfl,_,_,_,_,_⟩:=o.slice;have T7:=Zh o;clear o d M);clear LD T6 L6 K6;have c4:=B7.size;generalize AE left q=b at L7 LL aj;by_cases h4:t.kind=4
       ·have N:=Zh (aj.1 h4);have b7:Hid (ec w7 w.heap.size g k b kept (take++[q]) (.slice A7 n7 c7) (.slice A2 n2 c2) (aA 0) w7):=Zh ⟨0,A2,n2,c2,by omega,rfl,rfl,by rw[uW];exact L7,by simp only[kD,List.append_nil];exact K7,T7,b6,Zh Ze⟩;go_wp2_with fail;go_loopw [10,15] (fun X a2 wr=>ec w7 w.heap.size g k b kept (take++[q]) (.slice A7 n7 c7) X a2 wr) (fun _ a2 _=>k-(intOf a2).toNat)
        case atStart=>exact b7
        case round=>
         obtain⟨m,A8,n8,c8,hm,rfl,rfl,a3,a4,a8,a9,am⟩:=hrel;clear b7;have an:=Zh (B7.trans (am.mono Zl));obtain⟨y0,_,_,_,_,_⟩:=GW wr an;rw[h4] at y0;have bl:=an.size;by_cases E:m<k
         ·have p:m<(WD b m).length:=(by rw[bX (uA LL.out)];have:=LL.out;omega);have f:m<b.length:=(uA LL.out);obtain⟨U,f0,V⟩:=eK a3 p;have e1:(WD b m)[m]=b[m]:=by
           have:=Pg f;rw[List.getElem?_eq_getElem p,List.getElem?_eq_getElem f] at this;injection this
          rw[e1] at U;have I1:Hid (b[m]=true->kD b (m+1)=kD b m++[(m:Int)]):=Zh (fun e=>FT (by rw[List.getElem?_eq_getElem f,e]));have I2:Hid (b[m]=false->kD b (m+1)=kD b m/\WD b m=WD b (m+1)):=Zh (fun e=>⟨vU (by rw[List.getElem?_eq_getElem f,e]),nY f (by rw[List.getElem?_eq_getElem f,e])⟩);have I3:=Zh (cX f);have S:=Zh (V false);rw[I3.out] at S;have bm:=xM b m;clear V e1;generalize b[m]=lb at U I1 I2;clear p f;cases lb with
          |false=>
           obtain⟨i1,i2⟩:=I2 rfl;have I4:=Zh i1;have I5:=Zh i2;clear i1 i2 S f0;go_wp2_with fail;go_roundw
           case rel=>exact⟨m+1,A8,n8,c8,by omega,by go_num,rfl,by rw[<-I5.out];exact a3,by rw[I4.out];exact a4,a8,a9,am⟩
           case measure=>simp[intOf];omega
          |true=>
           have I4:=Zh (I1 rfl);have aa:Hid (kI.pA (wr.alloc (.cells #[aA (m:Int)] 3)) (wr.heap.size+1) (some ⟨wr.heap.size,0,none⟩) [(m:Int)]):=Zh (Kind.pA.lit (heap_alloc_new wr _) rfl);clear S f0;go_upto_region 28 with(at_builtin;refine kI.iC rfl _ _ rfl (v:=.slice A8 n8 c8) (l:=kept++kD b m) (m:=[(m:Int)]) (B:=w.heap.size) rfl (a4.alloc _) rfl rfl RB aa (by have:=au.out;simp;omega) AA ?_;intro v' O o d M;have B9:Hid (Below w.heap.size w7 O):=Zh ((am.alloc bl _).grown d AA (fun i H=>(a4.lt H).1));have L9:Hid (cE.Own O w.heap.size (.slice (some (dA g 0)) k k) (WD b m)):=Zh ((a3.alloc _).grown d (fun i H e=>(Kind.Own.KV a3 a4 nA) i H e));have T9:Hid (kI.Own O w.heap.size (.slice A7 n7 c7) (take++[q])):=Zh ((a8.alloc _).grown d (fun i H e=>a9 i H e));have bn:=Zh (wW (gE.symm a9) a8 M);obtain⟨A9,n9,c9,rfl,_,_,_,_,_⟩:=o.slice;have K9:=Zh o;clear o d M);clear aa U;obtain⟨U,f0,V⟩:=eK L9 (k:=m) (by rw[bX (uA LL.out)];have:=LL.out;omega);have S:=Zh (V false);rw[I3.out] at S;have bp:=Zh (aP (u:=.bool false) T9 L9 m);have bq:=Zh (aP (u:=.bool false) K9 L9 m);have br:Hid (Below w.heap.size w7 (O.setCell (dA g m) (.bool false))):=Zh (B9.trans ((mH O g m _).AB (fun i _ H=>by have:=HG.out;omega) (uA B9.size)));have b8:=Zh (gE.symm bn);clear V;go_wp2_with fail;go_roundw
           case rel=>exact⟨m+1,A9,n9,c9,by omega,by go_num,rfl,S,by rw[I4.out,<-List.append_assoc];exact bq,bp,b8,br⟩
           case measure=>simp[intOf];omega
         ·obtain rfl:m=k:=cA
          have ab:Hid (xR w g m old (oA ts) (.slice A7 n7 c7) (.slice A8 n8 c8) (aA ((j+1:Nat):Int)) wr):=Zh ⟨j+1,A7,n7,c7,A8,n8,c8,by rw[EL.out];omega,rfl,rfl,rfl,by
           rw[N.out];have:=a3.out;rw[<-LL.out,dX] at this;simp only;rw[T.out,<-LL.out];exact Zh this,by rw[N.out];exact a8,by
           rw[N.out];simp only;rw[T.out];exact a4,a9,an⟩
          go_wp2_with fail;go_roundw
          case rel=>exact ab
          case measure=>simp[intOf];omega
       ·have N:=Zh (aj.2 h4);have q4:=int_ne h4;go_wp2_with fail;go_loopw [10,15] (fun X a2 wr=>X= .slice A2 n2 c2/\a2 = aA 0/\Hid (wr=w7)) (fun _ _ _=>0)
        case atStart=>exact⟨rfl,rfl,Zh rfl⟩
        case round=>
         obtain⟨rfl,rfl,HE⟩:=hrel;obtain rfl:=HE;obtain⟨y0,_,_,_,_,_⟩:=GW wr B7;have ab:Hid (xR w g k old (oA ts) (.slice A7 n7 c7) (.slice A2 n2 c2) (aA ((j+1:Nat):Int)) wr):=Zh ⟨j+1,A7,n7,c7,A2,n2,c2,by rw[EL.out];omega,rfl,rfl,rfl,by rw[N.out];exact L7,by rw[N.out];exact T7,by rw[N.out];exact K7,b6,B7⟩;by_cases c5:0<k
         ·go_wp2_with fail;go_roundw
          case rel=>exact ab
          case measure=>simp[intOf];omega
         ·go_wp2_with fail;go_roundw
          case rel=>exact ab
          case measure=>simp[intOf];omega
    ·obtain rfl:j=n':=cA
     have FJ:Hid ((oA ts).take j=oA ts):=Zh (List.take_of_length_le (uA EL.out));rw[FJ.out] at HL J K Q;have F:(foldM old (oA ts)).left.length=k:=(by rw[Q,T.out]);have G:=Zh F;clear Y Q F FJ;obtain⟨s,hs⟩:=qA (foldM old (oA ts));rw[hs] at HL J K G;have HS:=Zh hs;clear hs;obtain⟨left,take,kept⟩:=s;simp only at HL J K G;obtain⟨W,rfl⟩:∃W:World,W=wr:=⟨_,rfl⟩;have b9:=P.size;have ba:Hid (∃(m:Nat) (A3:jA) (n3 c3:Nat),m<=k/\(Value.int .i64 0) = aA (m:Int)/\(Value.slice none 0 0)= .slice A3 n3 c3/\Hid (kI.Own W W.heap.size (.slice A3 n3 c3) (kD left m))/\Hid (eA W W)):=Zh ⟨0,none,0,0,by omega,rfl,rfl,Zh (Kind.Own.nil kI W _),Zh Ze⟩;go_wp2_with fail;go_loopw [16,17] (fun bs ao wr=>∃(m:Nat) (A3:jA) (n3 c3:Nat),m<=k/\ao = aA (m:Int)/\bs= .slice A3 n3 c3/\Hid (kI.Own wr W.heap.size (.slice A3 n3 c3) (kD left m))/\Hid (eA W wr)) (fun _ ao _=>k-(intOf ao).toNat)
     case atStart=>exact ba
     case round=>
      obtain⟨m,A3,n3,c3,hm,rfl,rfl,I,z⟩:=hrel;clear ba;have bt:=z.size;by_cases E:m<k
      ·have p:m<left.length:=(uA G.out);obtain⟨U,_,_⟩:=eK (HL.below z Zl) p;have I1:Hid (left[m]=true->kD left (m+1)=kD left m++[(m:Int)]):=Zh (fun e=>FT (by rw[List.getElem?_eq_getElem p,e]));have I2:Hid (left[m]=false->kD left (m+1)=kD left m):=Zh (fun e=>vU (by rw[List.getElem?_eq_getElem p,e]));have bm:=xM left m;generalize left[m]=lb at U I1 I2;clear p;cases lb with
       |false=>
        have I4:=Zh (I2 rfl);go_wp2_with fail;go_roundw
        case rel=>exact⟨m+1,A3,n3,c3,by omega,by go_num,rfl,by rw[I4.out];exact I,z⟩
        case measure=>simp[intOf];omega
       |true=>
        have I4:=Zh (I1 rfl);have aa:Hid (kI.pA (wr.alloc (.cells #[aA (m:Int)] 3)) (wr.heap.size+1) (some ⟨wr.heap.size,0,none⟩) [(m:Int)]):=Zh (Kind.pA.lit (heap_alloc_new wr _) rfl);go_wp2_with (at_builtin;refine kI.iC rfl _ _ rfl (v:=.slice A3 n3 c3) (l:=kD left m) (m:=[(m:Int)]) (B:=W.heap.size) rfl (I.alloc _) rfl rfl RB aa AA AA ?_;intro v' O o d M;have B9:Hid (eA W O):=Zh ((z.alloc bt _).grown d AA (fun i H=>(I.lt H).1));obtain⟨A9,n9,c9,rfl,_,_,_,_,_⟩:=o.slice;have K9:=Zh o;clear o d M);go_roundw
        case rel=>exact⟨m+1,A9,n9,c9,by omega,by go_num,rfl,by rw[I4.out];exact K9,B9⟩
        case measure=>simp[intOf];omega
      ·obtain rfl:m=k:=cA
       go_wp2_with fail;go_ret3;rw[HS.out];exact⟨A1,n1,c1,A2,n2,c2,A3,n3,c3,rfl,J.below z Zl,K.below z Zl,by rw[T.out];exact I.dE b9,P.trans (z.mono b9)⟩
end P16
namespace P19
open P5 P14 P16
def dB(l:List Nd)(i:Int):Ol:=match find l i with
 |some x=>⟨x.tag,x.key⟩
 |none=>⟨e0,e0⟩
def jC(l:List Nd)(i:Int):Nd:=(find l i).getD (GC 0 e0 e0 e0)
abbrev Rec:=Sg->Int->List Int->List PW->Sg
def IE(rec:Rec)(x:PW)(id:Int)(s:Sg):Sg:=
 let n:=jC s.1.l id
 let s2:=if x.kind=2/\n.txt.toList≠x.txt.toList then GA s (eE id x.txt) else s
 let a:=P3.aC n.attrs x.attrs
 let s3:=if x.kind=1/\P3.zD a n.attrs=false then GA s2 (rC id a) else s2
 if x.kind=1 then rec s3 id (xA s3.1.l id) x.kids else s3
def dF(rec:Rec)(par b:Int)(x:PW)(s:Sg):Sg:=
 let id:=s.1.n+1
 let s2:=GA (GA s (jB id x.tag x.txt x.key)) (vB id par b)
 let a:=P3.pC x.attrs
 let s3:=if a=[] then s2 else GA s2 (rC id a)
 if x.kind=1 then rec s3 id (xA s3.1.l id) x.kids else s3
def PD(rec:Rec)(par beh:Int)(ids:List Int)(x:PW)(t:Int)(p:Sg×List Int):Sg×List Int:=
 if x.kind=4 then(p.1,[])
 else if 0<=t then
  let id:=ids.getD t.toNat 0
  let m:=UB p.1 par p.2 beh id (p.2.idxOf id)
  if x.kind=3 then m else(IE rec x id m.1,m.2)
 else if x.kind=3 then p
 else(dF rec par (aB p.2 beh) x p.1,p.2)
def DB:Nat->Sg->Int->List Int->Int->List PW->Sg
 |0,s,_,_,_,_=>s
 |f+1,s,par,ids,beh,want=>
  let p:=(want.zip (foldM (ids.map (dB s.1.l)) want).take).foldl (fun p xt=>PD (fun s i ks w=>DB f s i ks 0 w) par beh ids xt.1 xt.2 p) (s,ids)
  xD p.2 p.1
def Kids(s:Sg)(par:Int)(ids:List Int):Prop:=∀i∈ids,lA s.1.l i=true/\yA s.1.l i=par
structure Lv(s0:Sg)(par:Int)(ids:List Int)(s:Sg):Prop where
 wf:WF s.1
 st:aF s0.1 s.1 par
 lB:Kids s par ids
section
variable{s0 s s':Sg}{par:Int}{ids:List Int}
theorem Hn{d:D}(hw:WF d){i:Int}(hi:i≠0):¬In d.l i i:=fun⟨_,hk⟩=>hw.tr.MK hi hk
theorem Lv.same(h0:WF s0.1)(h:Lv s0 par ids s)(hw:WF s'.1)(h1:∀y,lA s'.1.l y=lA s.1.l y)(h2:∀y,yA s'.1.l y=yA s.1.l y):Lv s0 par ids s':=
 ⟨hw,h.st.trans h0 h.wf (Pe h1 h2),fun i a=>⟨(h1 i).trans (h.lB i a).1,(h2 i).trans (h.lB i a).2⟩⟩
theorem Lv.text(h0:WF s0.1)(h:Lv s0 par ids s)(i:Int)(t:wA):Lv s0 par ids (GA s (eE i t)):=by
 obtain⟨a,b⟩:=Rg s.1 i t;exact h.same h0 (fE h.wf _) a b
theorem Lv.attr(h0:WF s0.1)(h:Lv s0 par ids s)(i:Int)(a:List P3.At):Lv s0 par ids (GA s (rC i a)):=by
 obtain⟨b,c⟩:=qP s.1 i a;exact h.same h0 (fE h.wf _) b c
theorem Lv.put(h0:WF s0.1)(h:Lv s0 par ids s){i:Int}(hi:yA s.1.l i=par)(b:Int):Lv s0 par ids (GA s (vB i par b)):=by
 obtain⟨c,d⟩:=aQ (p:=par) h.wf i b;have f:=lq (p:=par) h.wf (b:=b) hi;refine⟨fE h.wf _,h.st.trans h0 h.wf (Ug h.wf hi),fun j a=>?_⟩;refine⟨(c j).trans (h.lB j a).1,?_⟩;by_cases e:j=i
 ·subst e;exact f
 ·exact(d j e).trans (h.lB j a).2
theorem Lv.Ub(h0:WF s0.1)(b:Int):∀(l:List Int) {s:Sg},Lv s0 par ids s->(∀i∈l,i∈ids)->Lv s0 par ids (tD par b l s)
 |[],_,h,_=>h
 |i:: l,s,h,hl=>by
  show Lv s0 par ids (tD par b l (GA s (vB i par b)));exact Lv.Ub h0 b l (h.put h0 (h.lB i (hl i DA)).2 b) (fun j hj=>hl j (by simp[hj]))
theorem Lv.move(h0:WF s0.1)(h:Lv s0 par ids s){left:List Int}(hl:∀i∈left,i∈ids)(beh id:Int)(k:Nat)(hid:id∈ids):Lv s0 par ids (UB s par left beh id k).1:=by
 unfold UB;simp only;split
 ·exact h
 split
 ·exact h.put h0 (h.lB id hid).2 _
 ·exact Lv.Ub h0 _ _ h (fun i a=>hl i (List.mem_of_mem_take a))
def kH(rec:Rec):Prop:=∀(s:Sg) (i:Int) (ks:List Int) (w:List PW),WF s.1->i≠0->Kids s i ks->ks.Nodup->WF (rec s i ks w).1/\aF s.1 (rec s i ks w).1 i
theorem NI(h:WF s.1)(i:Int):Kids s i (xA s.1.l i)/\(xA s.1.l i).Nodup:=⟨fun c a=>⟨(h.tr.lB i c a).2.1,(h.tr.lB i c a).2.2⟩,h.tr.IC i⟩
theorem Lv.Ns{rec:Rec}(R:kH rec)(h0:WF s0.1)(hp:par≠0)(h:Lv s0 par ids s){i:Int}(hi:lA s.1.l i=true)(hip:yA s.1.l i=par)(w:List PW):Lv s0 par ids (rec s i (xA s.1.l i) w):=by
 have a:i≠0:=h.wf.tr.SF hi;obtain⟨d,e⟩:=NI h.wf i;obtain⟨f,b⟩:=R s i (xA s.1.l i) w h.wf a d e;refine⟨f,h.st.trans h0 h.wf (b.up hip),fun j g=>?_⟩;obtain⟨k,c⟩:=h.lB j g;have l:¬In s.1.l i j:=UU h.wf hp hip c;obtain⟨m,n⟩:=b j k l;exact⟨m,n.trans c⟩
theorem Lv.taken{rec:Rec}(R:kH rec)(h0:WF s0.1)(hp:par≠0)(h:Lv s0 par ids s){id:Int}(hid:id∈ids)(x:PW):Lv s0 par ids (IE rec x id s):=by
 unfold IE;simp only;have a:Lv s0 par ids (if x.kind=2/\(jC s.1.l id).txt.toList≠x.txt.toList then GA s (eE id x.txt) else s):=by
  split
  ·exact h.text h0 id x.txt
  ·exact h
 generalize (if x.kind=2/\(jC s.1.l id).txt.toList≠x.txt.toList then GA s (eE id x.txt) else s)=c at a;have b:Lv s0 par ids (if x.kind=1/\P3.zD (P3.aC (jC s.1.l id).attrs x.attrs) (jC s.1.l id).attrs=false then GA c (rC id (P3.aC (jC s.1.l id).attrs x.attrs)) else c):=by
  split
  ·exact a.attr h0 id _
  ·exact a
 generalize (if x.kind=1/\P3.zD (P3.aC (jC s.1.l id).attrs x.attrs) (jC s.1.l id).attrs=false then GA c (rC id (P3.aC (jC s.1.l id).attrs x.attrs)) else c)=d at b;split
 ·exact b.Ns R h0 hp (b.lB id hid).1 (b.lB id hid).2 x.kids
 ·exact b
def uL(d d':D):Prop:=∀y,lA d.l y=true->lA d'.l y=true/\yA d'.l y=yA d.l y
theorem uL.lv(h0:WF s0.1)(h:Lv s0 par ids s)(hw:WF s'.1)(k:uL s.1 s'.1):Lv s0 par ids s':=
 ⟨hw,h.st.trans h0 h.wf (fun y b _=>k y b),fun i a=>⟨(k i (h.lB i a).1).1,(k i (h.lB i a).1).2.trans (h.lB i a).2⟩⟩
theorem QZ{d d':D}(hw:WF d)(hw':WF d')(k:uL d d'){y:Int}(hy:lA d.l y=true):∀j,it (yA d'.l) j y=it (yA d.l) j y/\(it (yA d.l) j y=0\/lA d.l (it (yA d.l) j y)=true)
 |0=>⟨rfl,.inr hy⟩
 |j+1=>by
  obtain⟨e,hc⟩:=QZ hw hw' k hy j;rw[UF,UF,e];rcases hc with hc|hc
  ·rw[hc,hw.tr.zero,hw'.tr.zero];exact⟨rfl,.inl rfl⟩
  ·refine⟨(k _ hc).2,?_⟩;by_cases e0:yA d.l (it (yA d.l) j y)=0
   ·exact .inl e0
   ·exact .inr (hw.tr.DH e0)
theorem Vg(hw:WF s.1)(tag txt key:wA)(b:Int):uL s.1 (GA (GA s (jB (s.1.n+1) tag txt key)) (vB (s.1.n+1) par b)).1:=fun y d=>by
 obtain⟨e,f⟩:=fX s.1 (jB (s.1.n+1) tag txt key) hw d;have a:WF (GA s (jB (s.1.n+1) tag txt key)).1:=fE hw _;obtain⟨g,i⟩:=aQ (p:=par) a (s.1.n+1) b;have c:y≠s.1.n+1:=(uA ((hw.pos d).2));exact⟨(g y).trans e,(i y c).trans f⟩
theorem Lv.new{rec:Rec}(R:kH rec)(h0:WF s0.1)(h:Lv s0 par ids s)(b:Int)(x:PW):Lv s0 par ids (dF rec par b x s):=by
 unfold dF;simp only;have l:=Vg (par:=par) h.wf x.tag x.txt x.key b;have d:WF (GA (GA s (jB (s.1.n+1) x.tag x.txt x.key)) (vB (s.1.n+1) par b)).1:=fE (fE h.wf _) _;generalize GA (GA s (jB (s.1.n+1) x.tag x.txt x.key)) (vB (s.1.n+1) par b)=f at l d;have a:uL s.1 (if P3.pC x.attrs=[] then f else GA f (rC (s.1.n+1) (P3.pC x.attrs))).1/\WF (if P3.pC x.attrs=[] then f else GA f (rC (s.1.n+1) (P3.pC x.attrs))).1:=by
  split
  ·exact⟨l,d⟩
  ·obtain⟨n,o⟩:=qP f.1 (s.1.n+1) (P3.pC x.attrs);exact⟨fun y i=>⟨(n y).trans (l y i).1,(o y).trans (l y i).2⟩,fE d _⟩
 generalize (if P3.pC x.attrs=[] then f else GA f (rC (s.1.n+1) (P3.pC x.attrs)))=m at a;obtain⟨a,c⟩:=a;split
 ·have k:s.1.n+1≠0:=(uA h.wf.n0);obtain⟨p,q⟩:=NI c (s.1.n+1);obtain⟨r,t⟩:=R m (s.1.n+1) _ x.kids c k p q;refine uL.lv h0 h r (fun y i=>?_);obtain⟨u,v⟩:=a y i;have w:¬In m.1.l (s.1.n+1) y:=by
   rintro⟨j,z⟩;obtain⟨e,g⟩:=QZ h.wf c a i (j+1);rw[z] at e;rcases g with g|g
   ·rw[g] at e;exact k e
   ·rw[<-e] at g;have:=(h.wf.pos g).2;omega
  obtain⟨A,B⟩:=t y u w;exact⟨A,B.trans v⟩
 ·exact uL.lv h0 h c a
theorem Lv.Fb(h0:WF s0.1)(hp:par≠0):∀(l:List Int) {ids:List Int} {s:Sg},Lv s0 par ids s->(∀i∈l,i∈ids)->l.Nodup->WF (xD l s).1/\aF s0.1 (xD l s).1 par
 |[],_,_,h,_,_=>⟨h.wf,h.st⟩
 |i:: l,ids,s,h,hl,hd=>by
  obtain⟨hd1,hd2⟩:=List.nodup_cons.1 hd;have hi:=h.lB i (hl i DA);have h2:Lv s0 par l (GA s (FE i)):=by
   refine⟨fE h.wf _,h.st.trans h0 h.wf (eX h.wf hi.2),fun j hj=>?_⟩;have hj2:=h.lB j (hl j (by simp[hj]));have hne:j≠i:=fun e=>hd1 (e▸hj)
   obtain⟨a1,a2⟩:=yS h.wf hj2.1 hne (UU h.wf hp hi.2 hj2.2);exact⟨a1,a2.trans hj2.2⟩
  exact Lv.Fb h0 hp l h2 (fun j hj=>hj) hd2
end
def iE:List Int->List Bool->List Int
 |i:: r,b:: bs=>if b then i:: iE r bs else iE r bs
 |_,_=>[]
theorem uG:∀(ids:List Int) (fl:List Bool),(iE ids fl).Sublist ids
 |[],fl=>by cases fl<;>exact List.Sublist.slnil
 |i:: r,[]=>List.nil_sublist _
 |i:: r,b:: bs=>by
  rw[iE];split
  ·exact(uG r bs).cons_cons _
  ·exact(uG r bs).cons _
theorem RZ:∀ids:List Int,iE ids (List.replicate ids.length true)=ids
 |[]=>rfl
 |i:: r=>by
  rw[List.length_cons,List.replicate_succ,iE,if_pos rfl,RZ r]
theorem oY:∀(ids:List Int) (n:Nat),iE ids (List.replicate n false)=[]
 |[],n=>by cases n<;>rfl
 |i:: r,0=>rfl
 |i:: r,n+1=>by rw[List.replicate_succ,iE,if_neg nA,oY r n]
theorem VN:∀{ids:List Int} {fl:List Bool} {t:Nat} {a:Int},fl[t]? = some true->ids[t]? = some a->a∈iE ids fl
 |[],fl,t,a,_,h=>by simp at h
 |i:: r,[],t,a,h,_=>by simp at h
 |i:: r,b:: bs,0,a,h,h2=>by
  simp at h h2;subst h;subst h2;rw[iE,if_pos rfl];simp
 |i:: r,b:: bs,t+1,a,h,h2=>by
  rw[iE];have:=VN (ids:=r) (fl:=bs) (t:=t) (a:=a) (by simpa using h) (by simpa using h2);split
  ·exact List.mem_cons_of_mem _ this
  ·exact this
theorem TZ:∀{ids:List Int} {fl:List Bool} {t:Nat} {a:Int},ids.Nodup->fl[t]? = some true->ids[t]? = some a->iE ids (fl.set t false)=(iE ids fl).erase a
 |[],fl,t,a,_,_,h=>by simp at h
 |i:: r,[],t,a,_,h,_=>by simp at h
 |i:: r,b:: bs,0,a,_,h,h2=>by
  simp at h h2;subst h;subst h2;rw[List.set_cons_zero,iE,iE,if_neg nA,if_pos rfl];simp
 |i:: r,b:: bs,t+1,a,hd,h,h2=>by
  obtain⟨h3,h4⟩:=List.nodup_cons.1 hd;have ih:=TZ (ids:=r) (fl:=bs) (t:=t) (a:=a) h4 (by simpa using h) (by simpa using h2);have ha:a∈r:=List.mem_of_getElem? (i:=t) (by simpa using h2);rw[List.set_cons_succ,iE,iE,ih];cases b with
  |false=>rfl
  |true=>
   have hne:i≠a:=fun e=>h3 (e▸ha)
   simp[hne]
theorem Od{l:List Int}{a:Int}(h:a∈l):l.take (l.idxOf a)++l.drop (l.idxOf a+1)=l.erase a:=by
 rw[<-List.eraseIdx_eq_take_drop_succ,List.erase_eq_eraseIdx_of_idxOf rfl]
section
variable{rec:Rec}{s0 s:Sg}{par beh:Int}{ids:List Int}{want:List PW}{old:List Ol}
def lC(rec:Rec)(par beh:Int)(ids:List Int)(old:List Ol)(want:List PW)(s:Sg)(i:Nat):Sg×List Int:=
 ((want.zip (foldM old want).take).take i).foldl (fun p xt=>PD rec par beh ids xt.1 xt.2 p) (s,ids)
theorem take_len:(foldM old want).take.length=want.length:=(wN old want).1
theorem sJ{i:Nat}(hi:i<want.length):lC rec par beh ids old want s (i+1)=PD rec par beh ids want[i] ((foldM old want).take[i]'(by rw[take_len];exact hi)) (lC rec par beh ids old want s i):=by
 unfold lC;have a:i<(want.zip (foldM old want).take).length:=(by rw[List.length_zip,take_len];omega);rw[List.take_succ_eq_append_getElem a,List.foldl_append,List.getElem_zip];rfl
theorem Kn:(want.zip (foldM old want).take).foldl (fun p xt=>PD rec par beh ids xt.1 xt.2 p) (s,ids)=lC rec par beh ids old want s want.length:=by
 unfold lC;rw[List.take_of_length_le (by rw[List.length_zip,take_len];omega)]
structure At(par:Int)(ids:List Int)(old:List Ol)(want:List PW)(s:Sg)(i:Nat)(p:Sg×List Int):Prop where
 lv:Lv s par ids p.1
 left:p.2=iE ids (foldM old (want.take i)).left
theorem wU{i:Nat}(hi:i<want.length):((foldM old want).take[i]'(by rw[take_len];exact hi))=(ZA want[i] old (foldM old (want.take i)).left old.length).1:=by
 have h:=take_at (old:=old) hi;rw[List.getElem?_eq_getElem (by rw[take_len];exact hi)] at h;exact Option.some.inj h
theorem NK(ho:old.length=ids.length){i:Nat}(hi:i<want.length)(h:0<=((foldM old want).take[i]'(by rw[take_len];exact hi))):
 ∃(j:Nat) (a:Int),((foldM old want).take[i]'(by rw[take_len];exact hi))=(j:Int)/\ids[j]? = some a/\(foldM old (want.take i)).left[j]? = some true/\want[i].kind≠4:=by
 rw[wU hi] at h|-;obtain⟨j,o,f,g,e,k,c,b⟩:=nS _ h;refine⟨j,ids[j]'cA,e,List.getElem?_eq_getElem cA,c,fun d=>?_⟩;unfold EC at b;rw[d] at b;simp at b
theorem At.step(R:kH rec)(h0:WF s.1)(hp:par≠0)(hd:ids.Nodup)(ho:old.length=ids.length){i:Nat}(hi:i<want.length){p:Sg×List Int}(h:At par ids old want s i p):
 At par ids old want s (i+1) (PD rec par beh ids want[i] ((foldM old want).take[i]'(by rw[take_len];exact hi)) p):=by
 have q:=pP (old:=old) hi;have w:=wU (old:=old) hi;unfold PD;by_cases m:want[i].kind=4
 ·rw[if_pos m];refine⟨h.lv,?_⟩;rw[q,pF,if_pos m];exact(oY _ _).symm
 ·rw[if_neg m];have r:(foldM old (want.take (i+1))).left=AE (foldM old (want.take i)).left ((foldM old want).take[i]'(by rw[take_len];exact hi)):=(by rw[q,pF,if_neg m,w]);by_cases b:0<=((foldM old want).take[i]'(by rw[take_len];exact hi))
  ·rw[if_pos b];obtain⟨j,a,t,n,u,_⟩:=NK ho hi b;have x:ids.getD ((foldM old want).take[i]'(by rw[take_len];exact hi)).toNat 0=a:=by
    rw[t];simp[List.getD,n]
   simp only[x];have d:a∈ids:=List.mem_of_getElem? n;have o:a∈p.2:=(by rw[h.left];exact VN u n);have e:∀c∈p.2,c∈ids:=fun c v=>by rw[h.left] at v;exact(uG _ _).subset v
   have f:=h.lv.move h0 e beh a (p.2.idxOf a) d;have g:(UB p.1 par p.2 beh a (p.2.idxOf a)).2=iE ids (foldM old (want.take (i+1))).left:=by
    show p.2.take (p.2.idxOf a)++p.2.drop (p.2.idxOf a+1)=_;rw[Od o,r,AE,if_pos b,t,Int.toNat_natCast,TZ hd u n,h.left]
   by_cases k:want[i].kind=3
   ·rw[if_pos k];exact⟨f,g⟩
   ·rw[if_neg k];exact⟨f.taken R h0 hp d _,g⟩
  ·rw[if_neg b];have l:(foldM old (want.take (i+1))).left=(foldM old (want.take i)).left:=(by rw[r,AE,if_neg b]);by_cases k:want[i].kind=3
   ·rw[if_pos k];exact⟨h.lv,by rw[l];exact h.left⟩
   ·rw[if_neg k];exact⟨h.lv.new R h0 _ _,by rw[l];exact h.left⟩
theorem SI(R:kH rec)(h0:WF s.1)(hp:par≠0)(hk:Kids s par ids)(hd:ids.Nodup)(ho:old.length=ids.length):∀i,i<=want.length->At par ids old want s i (lC rec par beh ids old want s i)
 |0,_=>⟨⟨h0,aF.refl _ _,hk⟩,by
  show ids=iE ids (foldM old (want.take 0)).left;rw[List.take_zero];show ids=iE ids (List.replicate old.length true);rw[ho,RZ]⟩
 |i+1,hi=>by
  rw[sJ cA];exact(SI R h0 hp hk hd ho i cA).step R h0 hp hd ho cA
theorem UZ(R:kH rec)(h0:WF s.1)(hp:par≠0)(hk:Kids s par ids)(hd:ids.Nodup)(ho:old.length=ids.length):
 WF (xD (lC rec par beh ids old want s want.length).2 (lC rec par beh ids old want s want.length).1).1/\aF s.1 (xD (lC rec par beh ids old want s want.length).2 (lC rec par beh ids old want s want.length).1).1 par:=by
 have h:=SI (want:=want) (beh:=beh) R h0 hp hk hd ho want.length Zl;exact Lv.Fb h0 hp _ h.lv (fun i a=>by rw[h.left] at a;exact(uG _ _).subset a) (by rw[h.left];exact(uG _ _).nodup hd)
theorem jJ(f:Nat)(s:Sg)(par:Int)(ids:List Int)(beh:Int)(want:List PW):DB (f+1) s par ids beh want=xD (lC (fun s i ks w=>DB f s i ks 0 w) par beh ids (ids.map (dB s.1.l)) want s want.length).2 (lC (fun s i ks w=>DB f s i ks 0 w) par beh ids (ids.map (dB s.1.l)) want s want.length).1:=by
 rw[DB,Kn]
theorem XG:∀f:Nat,kH (fun s i ks w=>DB f s i ks 0 w)
 |0=>fun s i ks w hw _ _ _=>⟨hw,aF.refl _ _⟩
 |f+1=>fun s i ks w hw hi hk hd=>by
  show WF (DB (f+1) s i ks 0 w).1/\aF s.1 (DB (f+1) s i ks 0 w).1 i;rw[jJ];exact UZ (XG f) hw hi hk hd DA
theorem VZ(f:Nat){s:Sg}{par:Int}{ids:List Int}(beh:Int)(want:List PW)(hw:WF s.1)(hp:par≠0)(hk:Kids s par ids)(hd:ids.Nodup):WF (DB f s par ids beh want).1/\aF s.1 (DB f s par ids beh want).1 par:=by
 cases f with
 |zero=>exact⟨hw,aF.refl _ _⟩
 |succ f=>
  rw[jJ];exact UZ (XG f) hw hp hk hd DA
end
mutual
def jE:PW->Nat
 | .mk _ _ _ _ _ ks=>1+eB ks
def eB:List PW->Nat
 |[]=>0
 |x:: r=>jE x+eB r
end
theorem Qe(a b:List PW):eB (a++b)=eB a+eB b:=by
 induction a with
 |nil=>simp[eB]
 |cons x r ih=>rw[List.cons_append,eB,eB,ih];omega
theorem WZ{l:List PW}{i:Nat}(h:i<l.length):eB (l.take (i+1))=eB (l.take i)+jE l[i]:=by
 rw[List.take_succ_eq_append_getElem h,Qe];simp[eB]
theorem tJ(x:PW):jE x=1+eB x.kids:=by cases x;rfl
theorem GG(s:Sg)(r:Rc):(GA s r).2.length<=s.2.length+1:=by unfold GA;simp only;split<;>simp
theorem mR(s:Sg)(r:Rc):(GA s r).1.n<=s.1.n+1:=(GM s.1 r).1
theorem SH(s:Sg){r:Rc}(h:r.op≠1):(GA s r).1.n=s.1.n:=NZ h
theorem VJ{d:D}(h:WF d)(i:Int):(xA d.l i).length<=200:=by
 unfold xA;cases hf:find d.l i with
 |none=>simp
 |some x=>exact h.vM (iI hf).1
def lL(rec:Rec):Prop:=∀(s:Sg) (i:Int) (ks:List Int) (w:List PW),WF s.1->i≠0->Kids s i ks->ks.Nodup->ks.length<=200->(rec s i ks w).1.n<=s.1.n+(eB w:Nat)/\(rec s i ks w).2.length<=s.2.length+200+2000*eB w
section
variable{rec:Rec}{s0 s:Sg}{par beh:Int}{ids:List Int}{want:List PW}{old:List Ol}
theorem S8(RL:lL rec){i:Int}(hw:WF s.1)(hi:i≠0)(w:List PW):(rec s i (xA s.1.l i) w).1.n<=s.1.n+(eB w:Nat)/\(rec s i (xA s.1.l i) w).2.length<=s.2.length+200+2000*eB w:=by
 obtain⟨a,b⟩:=NI hw i;exact RL s i _ w hw hi a b (VJ hw i)
theorem Wg(RL:lL rec)(hw:WF s.1){id:Int}(hid:id≠0)(x:PW):(IE rec x id s).1.n<=s.1.n+(eB x.kids:Nat)/\(IE rec x id s).2.length<=s.2.length+202+2000*eB x.kids:=by
 unfold IE;simp only;have a:WF (if x.kind=2/\(jC s.1.l id).txt.toList≠x.txt.toList then GA s (eE id x.txt) else s).1/\(if x.kind=2/\(jC s.1.l id).txt.toList≠x.txt.toList then GA s (eE id x.txt) else s).1.n=s.1.n/\(if x.kind=2/\(jC s.1.l id).txt.toList≠x.txt.toList then GA s (eE id x.txt) else s).2.length<=s.2.length+1:=by
  split
  ·exact⟨fE hw _,SH s (show(5:Int)≠1 by decide),GG _ _⟩
  ·exact⟨hw,rfl,by omega⟩
 generalize (if x.kind=2/\(jC s.1.l id).txt.toList≠x.txt.toList then GA s (eE id x.txt) else s)=c at a;obtain⟨d,f,g⟩:=a;have b:WF (if x.kind=1/\P3.zD (P3.aC (jC s.1.l id).attrs x.attrs) (jC s.1.l id).attrs=false then GA c (rC id (P3.aC (jC s.1.l id).attrs x.attrs)) else c).1/\(if x.kind=1/\P3.zD (P3.aC (jC s.1.l id).attrs x.attrs) (jC s.1.l id).attrs=false then GA c (rC id (P3.aC (jC s.1.l id).attrs x.attrs)) else c).1.n=c.1.n/\(if x.kind=1/\P3.zD (P3.aC (jC s.1.l id).attrs x.attrs) (jC s.1.l id).attrs=false then GA c (rC id (P3.aC (jC s.1.l id).attrs x.attrs)) else c).2.length<=c.2.length+1:=by
  split
  ·exact⟨fE d _,SH c (show(4:Int)≠1 by decide),GG _ _⟩
  ·exact⟨d,rfl,by omega⟩
 generalize (if x.kind=1/\P3.zD (P3.aC (jC s.1.l id).attrs x.attrs) (jC s.1.l id).attrs=false then GA c (rC id (P3.aC (jC s.1.l id).attrs x.attrs)) else c)=i at b;obtain⟨e,j,k⟩:=b;split
 ·obtain⟨l,m⟩:=S8 RL e hid x.kids;exact⟨by omega,by omega⟩
 ·exact⟨by omega,by omega⟩
theorem U8(RL:lL rec)(hw:WF s.1)(b:Int)(x:PW):(dF rec par b x s).1.n<=s.1.n+1+(eB x.kids:Nat)/\(dF rec par b x s).2.length<=s.2.length+203+2000*eB x.kids:=by
 unfold dF;simp only;have d:WF (GA (GA s (jB (s.1.n+1) x.tag x.txt x.key)) (vB (s.1.n+1) par b)).1:=fE (fE hw _) _;have e:(GA (GA s (jB (s.1.n+1) x.tag x.txt x.key)) (vB (s.1.n+1) par b)).1.n<=s.1.n+1:=by
  rw[SH _ (show(2:Int)≠1 by decide)];exact mR _ _
 have f:(GA (GA s (jB (s.1.n+1) x.tag x.txt x.key)) (vB (s.1.n+1) par b)).2.length<=s.2.length+2:=Nat.le_trans (GG _ _) (by have:=GG s (jB (s.1.n+1) x.tag x.txt x.key);omega);generalize GA (GA s (jB (s.1.n+1) x.tag x.txt x.key)) (vB (s.1.n+1) par b)=a at d e f;have c:WF (if P3.pC x.attrs=[] then a else GA a (rC (s.1.n+1) (P3.pC x.attrs))).1/\(if P3.pC x.attrs=[] then a else GA a (rC (s.1.n+1) (P3.pC x.attrs))).1.n=a.1.n/\(if P3.pC x.attrs=[] then a else GA a (rC (s.1.n+1) (P3.pC x.attrs))).2.length<=a.2.length+1:=by
  split
  ·exact⟨d,rfl,by omega⟩
  ·exact⟨fE d _,SH a (show(4:Int)≠1 by decide),GG _ _⟩
 generalize (if P3.pC x.attrs=[] then a else GA a (rC (s.1.n+1) (P3.pC x.attrs)))=j at c;obtain⟨g,k,l⟩:=c;split
 ·obtain⟨m,o⟩:=S8 RL (i:=s.1.n+1) g (uA hw.n0) x.kids;exact⟨by omega,by omega⟩
 ·exact⟨by omega,by omega⟩
theorem IT(hw:WF s.1)(left:List Int)(beh id:Int)(k:Nat):(UB s par left beh id k).1.1.n=s.1.n/\(UB s par left beh id k).1.2.length<=s.2.length+1+left.length:=by
 unfold UB;simp only;split
 ·exact⟨rfl,by omega⟩
 split
 ·exact⟨SH s (show(2:Int)≠1 by decide),by have:=GG s (vB id par (aB left 0));omega⟩
 ·obtain⟨_,a,b⟩:=IM par (aB (left.drop (k+1)) beh) (left.take k) hw;rw[List.length_take] at b;exact⟨a,by omega⟩
theorem EP:∀(l:List Int) (s:Sg),(xD l s).1.n=s.1.n/\(xD l s).2.length<=s.2.length+l.length
 |[],s=>⟨rfl,by simp[xD]⟩
 |i:: l,s=>by
  obtain⟨h1,h2⟩:=EP l (GA s (FE i));have h3:=GG s (FE i);refine⟨h1.trans (SH s (show(3:Int)≠1 by decide)),?_⟩;show(xD l (GA s (FE i))).2.length<=_;simp only[List.length_cons];omega
theorem vO(R:kH rec)(RL:lL rec)(h0:WF s.1)(hp:par≠0)(hk:Kids s par ids)(hd:ids.Nodup)(hl:ids.length<=200)(ho:old.length=ids.length):∀i,i<=want.length->
 (lC rec par beh ids old want s i).1.1.n<=s.1.n+(eB (want.take i):Nat)/\(lC rec par beh ids old want s i).1.2.length<=s.2.length+2000*eB (want.take i)
 |0,_=>by
  show s.1.n<=s.1.n+(eB (want.take 0):Nat)/\s.2.length<=s.2.length+2000*eB (want.take 0);exact⟨by omega,by omega⟩
 |i+1,hi=>by
  obtain⟨a1,a2⟩:=vO R RL h0 hp hk hd hl ho i cA;have hA:=SI (want:=want) (beh:=beh) R h0 hp hk hd ho i cA;have hi':i<want.length:=cA;have hlen:(lC rec par beh ids old want s i).2.length<=200:=by
   rw[hA.left];exact Nat.le_trans (uG _ _).length_le hl
  have hw:=hA.lv.wf;have hkid:=hA.lv.lB;rw[sJ hi',WZ hi',tJ];generalize lC rec par beh ids old want s i=p at a1 a2 hlen hw hkid;unfold PD;split
  ·(try dsimp only);exact⟨by omega,by omega⟩
  split
  ·rename_i h4 ht;obtain⟨j,a,e1,e2,_,_⟩:=NK ho hi' ht;have hg:ids.getD ((foldM old want).take[i]'(by rw[take_len];exact hi')).toNat 0=a:=by
    rw[e1];simp[List.getD,e2]
   simp only[hg];obtain⟨m1,m2⟩:=IT (par:=par) hw p.2 beh a (p.2.idxOf a);have hain:a∈ids:=List.mem_of_getElem? e2;have ha0:a≠0:=hw.tr.SF (hkid a hain).1;have hwm:WF (UB p.1 par p.2 beh a (p.2.idxOf a)).1.1:=by
    unfold UB;simp only;split
    ·exact hw
    split
    ·exact fE hw _
    ·exact(IM _ _ _ hw).1
   split
   ·(try dsimp only);exact⟨by omega,by omega⟩
   ·obtain⟨t1,t2⟩:=Wg RL hwm ha0 want[i]
    (try dsimp only);exact⟨by omega,by omega⟩
  split
  ·(try dsimp only);exact⟨by omega,by omega⟩
  ·obtain⟨t1,t2⟩:=U8 (par:=par) RL hw (aB p.2 beh) want[i]
   (try dsimp only);exact⟨by omega,by omega⟩
theorem pY(R:kH rec)(RL:lL rec)(h0:WF s.1)(hp:par≠0)(hk:Kids s par ids)(hd:ids.Nodup)(hl:ids.length<=200)(ho:old.length=ids.length):
 (xD (lC rec par beh ids old want s want.length).2 (lC rec par beh ids old want s want.length).1).1.n<=s.1.n+(eB want:Nat)/\(xD (lC rec par beh ids old want s want.length).2 (lC rec par beh ids old want s want.length).1).2.length<=s.2.length+200+2000*eB want:=by
 obtain⟨b,c⟩:=vO (want:=want) (beh:=beh) R RL h0 hp hk hd hl ho want.length Zl;have d:=SI (want:=want) (beh:=beh) R h0 hp hk hd ho want.length Zl;have a:(lC rec par beh ids old want s want.length).2.length<=200:=by
  rw[d.left];exact Nat.le_trans (uG _ _).length_le hl
 rw[List.take_length] at b c;obtain⟨e,f⟩:=EP (lC rec par beh ids old want s want.length).2 (lC rec par beh ids old want s want.length).1;exact⟨by omega,by omega⟩
theorem kM:∀f:Nat,lL (fun s i ks w=>DB f s i ks 0 w)
 |0=>fun s i ks w _ _ _ _ _=>by
  show s.1.n<=s.1.n+(eB w:Nat)/\s.2.length<=s.2.length+200+2000*eB w;exact⟨by omega,by omega⟩
 |f+1=>fun s i ks w hw hi hk hd hl=>by
  show(DB (f+1) s i ks 0 w).1.n<=_/\(DB (f+1) s i ks 0 w).2.length<=_;rw[jJ];exact pY (XG f) (kM f) hw hi hk hd hl DA
theorem qY(f:Nat){s:Sg}{par:Int}{ids:List Int}(beh:Int)(want:List PW)(hw:WF s.1)(hp:par≠0)(hk:Kids s par ids)(hd:ids.Nodup)(hl:ids.length<=200):
 (DB (f+1) s par ids beh want).1.n<=s.1.n+(eB want:Nat)/\(DB (f+1) s par ids beh want).2.length<=s.2.length+200+2000*eB want:=by
 rw[jJ];exact pY (XG f) (kM f) hw hp hk hd hl DA
end
def Cl(T:D->Prop):Prop:=∀d r,T d->T (VA d r).2
section
variable{T:D->Prop}{rec:Rec}{s:Sg}{par beh:Int}{ids:List Int}{want:List PW}{old:List Ol}
theorem lG(c:Cl T)(h:T s.1)(r:Rc):T (GA s r).1:=c _ _ h
theorem V8(c:Cl T)(par b:Int):∀(l:List Int) {s:Sg},T s.1->T (tD par b l s).1
 |[],_,h=>h
 |i:: l,s,h=>V8 c par b l (lG c h _)
theorem JT(c:Cl T):∀(l:List Int) {s:Sg},T s.1->T (xD l s).1
 |[],_,h=>h
 |i:: l,s,h=>JT c l (lG c h _)
theorem xU(c:Cl T)(h:T s.1)(par:Int)(left:List Int)(beh id:Int)(k:Nat):T (UB s par left beh id k).1.1:=by
 unfold UB;simp only;split
 ·exact h
 split
 ·exact lG c h _
 ·exact V8 c _ _ _ h
def LO(T:D->Prop)(rec:Rec):Prop:=∀s i ks w,T s.1->T (rec s i ks w).1
theorem Uj(c:Cl T)(R:LO T rec)(x:PW)(id:Int)(h:T s.1):T (IE rec x id s).1:=by
 unfold IE;simp only;have a:T (if x.kind=2/\(jC s.1.l id).txt.toList≠x.txt.toList then GA s (eE id x.txt) else s).1:=by
  split
  ·exact lG c h _
  ·exact h
 generalize (if x.kind=2/\(jC s.1.l id).txt.toList≠x.txt.toList then GA s (eE id x.txt) else s)=d at a;have b:T (if x.kind=1/\P3.zD (P3.aC (jC s.1.l id).attrs x.attrs) (jC s.1.l id).attrs=false then GA d (rC id (P3.aC (jC s.1.l id).attrs x.attrs)) else d).1:=by
  split
  ·exact lG c a _
  ·exact a
 split
 ·exact R _ _ _ _ b
 ·exact b
theorem mq(c:Cl T)(R:LO T rec)(par b:Int)(x:PW)(h:T s.1):T (dF rec par b x s).1:=by
 unfold dF;simp only;have a:=lG c (lG c h (jB (s.1.n+1) x.tag x.txt x.key)) (vB (s.1.n+1) par b);have d:T (if P3.pC x.attrs=[] then GA (GA s (jB (s.1.n+1) x.tag x.txt x.key)) (vB (s.1.n+1) par b) else GA (GA (GA s (jB (s.1.n+1) x.tag x.txt x.key)) (vB (s.1.n+1) par b)) (rC (s.1.n+1) (P3.pC x.attrs))).1:=by
  split
  ·exact a
  ·exact lG c a _
 split
 ·exact R _ _ _ _ d
 ·exact d
theorem Ln(c:Cl T)(R:LO T rec)(x:PW)(t:Int)(p:Sg×List Int)(h:T p.1.1):T (PD rec par beh ids x t p).1.1:=by
 unfold PD;split
 ·exact h
 split
 ·simp only;split
  ·exact xU c h _ _ _ _ _
  ·exact Uj c R _ _ (xU c h _ _ _ _ _)
 split
 ·exact h
 ·exact mq c R _ _ _ h
theorem dN(c:Cl T)(R:LO T rec)(h:T s.1):∀i,i<=want.length->T (lC rec par beh ids old want s i).1.1
 |0,_=>h
 |i+1,hi=>by
  rw[sJ cA];exact Ln c R _ _ _ (dN c R h i cA)
theorem wO(c:Cl T):∀f:Nat,LO T (fun s i ks w=>DB f s i ks 0 w)
 |0=>fun _ _ _ _ h=>h
 |f+1=>fun s i ks w h=>by
  show T (DB (f+1) s i ks 0 w).1;rw[jJ];exact JT c _ (dN c (wO c f) h _ Zl)
end
def pG(d:D):Prop:=∀x∈d.l,P3.bC x.attrs=true
theorem Mn:P3.bC []=true:=P3.oJ.2 ⟨by simp,fun a h=>absurd h DA,List.Pairwise.nil⟩
theorem MM{l:List Nd}{i:Int}{f:Nd->Nd}(h:∀x∈l,P3.bC x.attrs=true)(hf:∀x,P3.bC x.attrs=true->P3.bC (f x).attrs=true):∀x∈iB l i f,P3.bC x.attrs=true:=by
 intro z a;obtain⟨x,hx,rfl⟩:=gK.1 a;split
 ·exact hf x (h x hx)
 ·exact h x hx
theorem sY{l:List Nd}(i:Int)(h:∀x∈l,P3.bC x.attrs=true):∀x∈QA l i,P3.bC x.attrs=true:=by
 unfold QA;split
 ·exact h
 ·exact MM (MM h (fun _ h=>h)) (fun _ h=>h)
theorem YG:Cl pG:=fun d r h=>by
 unfold VA;split
 ·unfold jD;split
  ·exact h
  split
  ·exact h
  ·intro x hx;rcases List.mem_append.1 hx with hx|hx
   ·exact h x hx
   ·rw[List.mem_singleton] at hx;subst hx;exact Mn
 split
 ·unfold oD;split
  ·exact MM (MM (sY _ h) (fun _ h=>h)) (fun _ h=>h)
  ·exact h
 split
 ·unfold OD;split
  ·exact h
  split
  ·exact h
  ·intro x hx;exact sY _ h x (List.mem_filter.1 hx).1
 split
 ·unfold fD;split
  ·exact h
  split
  ·exact h
  split
  ·exact h
  ·rename_i hm;exact MM h (fun x _=>by show P3.bC r.attrs=true;simpa using hm)
 split
 ·unfold GD;split
  ·exact h
  split
  ·exact h
  split
  ·exact h
  ·exact MM h (fun _ h=>h)
 ·exact h
mutual
def dW:PW->Nat
 | .mk _ _ _ _ _ ks=>1+dL ks
def dL:List PW->Nat
 |[]=>0
 |x:: r=>max (dW x) (dL r)
end
theorem nR{x:PW}:∀{l:List PW},x∈l->dW x<=dL l
 |[],h=>by cases h
 |y:: r,h=>by
  rw[dL];rcases List.mem_cons.1 h with rfl|h
  ·omega
  ·have:=nR h;omega
theorem lH(x:PW):dW x=1+dL x.kids:=by cases x;rfl
section
variable{rec:Rec}{par beh:Int}{ids:List Int}{x:PW}{t:Int}{p:Sg×List Int}{j:Nat}{a:Int}
theorem tY(h:x.kind=4):PD rec par beh ids x t p=(p.1,[]):=by unfold PD;rw[if_pos h]
theorem step_skip(h:x.kind=3)(ht:¬0<=t):PD rec par beh ids x t p=p:=by
 unfold PD;rw[if_neg cA,if_neg ht,if_pos h]
theorem PM(e:t=(j:Int))(hj:ids[j]? = some a):ids.getD t.toNat 0=a:=by
 rw[e];simp[List.getD,hj]
theorem uY(h:x.kind=3)(e:t=(j:Int))(hj:ids[j]? = some a):PD rec par beh ids x t p=UB p.1 par p.2 beh a (p.2.idxOf a):=by
 unfold PD;rw[if_neg cA,if_pos cA];simp only[PM e hj];rw[if_pos h]
theorem KT(h4:x.kind≠4)(h3:x.kind≠3)(ht:¬0<=t):PD rec par beh ids x t p=(dF rec par (aB p.2 beh) x p.1,p.2):=by
 unfold PD;rw[if_neg h4,if_neg ht,if_neg h3]
theorem gX(h4:x.kind≠4)(h3:x.kind≠3)(e:t=(j:Int))(hj:ids[j]? = some a):PD rec par beh ids x t p=(IE rec x a (UB p.1 par p.2 beh a (p.2.idxOf a)).1,(UB p.1 par p.2 beh a (p.2.idxOf a)).2):=by
 unfold PD;rw[if_neg h4,if_pos cA];simp only[PM e hj];rw[if_neg h3]
variable{s:Sg}{b id:Int}
def YD(par b:Int)(x:PW)(s:Sg):Sg:=GA (GA s (jB (s.1.n+1) x.tag x.txt x.key)) (vB (s.1.n+1) par b)
def rF(par b:Int)(x:PW)(s:Sg):Sg:=if P3.pC x.attrs=[] then YD par b x s else GA (YD par b x s) (rC (s.1.n+1) (P3.pC x.attrs))
theorem bL(t:WV):YD par b (er t) s=GA (GA s (jB (s.1.n+1) t.tag t.txt t.key)) (vB (s.1.n+1) par b):=by
 unfold YD;rw[TE];rfl
theorem QK(t:WV):(er t).attrs=t.attrs:=by rw[TE];rfl
theorem nF(t:WV):(er t).kids=oA t.kids:=by rw[TE];rfl
theorem SQ(t:WV):(er t).txt=t.txt:=by rw[TE];rfl
theorem yU{t:WV}(h:P3.pC t.attrs=[]):rF par b (er t) s=YD par b (er t) s:=by
 unfold rF;rw[QK,if_pos h]
theorem Y8{t:WV}(h:P3.pC t.attrs≠[]):rF par b (er t) s=GA (YD par b (er t) s) (rC (s.1.n+1) (P3.pC t.attrs)):=by
 unfold rF;rw[QK,if_neg h]
theorem sQ(h:x.kind=1):dF rec par b x s=rec (rF par b x s) (s.1.n+1) (xA (rF par b x s).1.l (s.1.n+1)) x.kids:=by
 unfold dF;simp only;rw[if_pos h];rfl
theorem VU(h:x.kind≠1):dF rec par b x s=rF par b x s:=by
 unfold dF;simp only;rw[if_neg h];rfl
theorem rP(h:x.kind=2):IE rec x id s=if(jC s.1.l id).txt.toList≠x.txt.toList then GA s (eE id x.txt) else s:=by
 unfold IE;simp only;rw[if_neg cA,if_neg cA];by_cases a:(jC s.1.l id).txt.toList≠x.txt.toList
 ·rw[if_pos ⟨h,a⟩,if_pos a]
 ·rw[if_neg (fun e=>a e.2),if_neg a]
def KF(x:PW)(id:Int)(s:Sg):Sg:=if P3.zD (P3.aC (jC s.1.l id).attrs x.attrs) (jC s.1.l id).attrs=false then GA s (rC id (P3.aC (jC s.1.l id).attrs x.attrs)) else s
theorem e9{t:WV}{nd:Nd}(h:jC s.1.l id=nd):KF (er t) id s=if P3.zD (P3.aC nd.attrs t.attrs) nd.attrs=false then GA s (rC id (P3.aC nd.attrs t.attrs)) else s:=by
 unfold KF;rw[h,QK]
theorem sP(h:x.kind=1):IE rec x id s=rec (KF x id s) id (xA (KF x id s).1.l id) x.kids:=by
 unfold IE KF;simp only;rw[if_pos h,if_neg (show¬(x.kind=2/\(jC s.1.l id).txt.toList≠x.txt.toList) from fun e=>by have:=e.1;omega)];by_cases a:P3.zD (P3.aC (jC s.1.l id).attrs x.attrs) (jC s.1.l id).attrs=false
 ·rw[if_pos ⟨h,a⟩,if_pos a]
 ·rw[if_neg (fun e=>a e.2),if_neg a]
theorem NT(h1:x.kind≠1)(h2:x.kind≠2):IE rec x id s=s:=by
 unfold IE;simp only;rw[if_neg h1,if_neg (fun e=>h1 e.1),if_neg (fun e=>h2 e.1)]
end
end P19
namespace P13
open Go.RowKit Kd P4 P11 P12 Mv
structure Pl where
 m:Nat
 sk:Bool
theorem gr:(prog.info? 205).map (fun i=>(i.zero,i.size,i.bytes))=some (some (.agg #[.map none,.bool false]),2,16):=by kernel_rfl
def EH:Kind prog Pl where
 t:=207
 e:=205
 size:=2
 bytes:=16
 z:=.agg #[.map none,.bool false]
 cs:=fun a=>[.map (some a.m),.bool a.sk]
 ht:=underlying207
 info:=VG gr
 QG:=rfl
 wF:=by decide
 RG:=by decide
 len:=fun _=>rfl
 one:=fun a u hu=>by simp at hu;rcases hu with rfl|rfl<;>rfl
theorem IV:Go.Maps.Keyed prog 9:=Go.Maps.string_keyed underlying9
theorem ys(w:World):(zeroValue 134).run prog w= .ok (.agg #[]) w:=by kernel_rfl
def fI(L:List In):Bool:=L.any (fun y=>decide (y.op=7))
def ZI(L:List In)(s:KA):Bool:=!s.isEmpty&&L.any (fun y=>gD y.op&&(y.b.toList==s))
def gG(L:List In):Lit->Option Value
 | .string s=>if ZI L s then some (.agg #[]) else none
 |_=>none
theorem bZ:gG []=fun _=>none:=by
 funext x;cases x<;>simp[gG,ZI]
def pE(x:In):Bool:=gD x.op && !x.b.toList.isEmpty
theorem uT(L:List In)(x:In)(s:KA):ZI (L++[x]) s=(ZI L s || (pE x&&(x.b.toList==s))):=by
 unfold ZI pE;rw[List.any_append,List.any_cons,List.any_nil,Bool.or_false];by_cases h:x.b.toList=s
 ·subst h;cases x.b.toList.isEmpty<;>cases gD x.op<;>simp
 ·have a:(x.b.toList==s)=false:=beq_eq_false_iff_ne.2 h;rw[a];simp
theorem cZ{L:List In}{x:In}(h:pE x=false):gG (L++[x])=gG L:=by
 funext y;cases y<;>simp[gG,uT,h]
theorem Bi{L:List In}{x:In}(h:pE x=true):QO (gG L) (gG (L++[x])) (.string x.b.toList) (some (.agg #[])):=by
 constructor
 ·simp[gG,uT,h]
 ·intro y a;cases y with
  |string s=>
   have b:(x.b.toList==s)=false:=beq_eq_false_iff_ne.2 (fun e=>a (by rw[e]));simp[gG,uT,b]
  |_=>rfl
def aJ(w:World)(B p k:Nat)(P:List (List In))(nm:Option (List (KA))):Prop:=
 ∃(g c d:Nat) (ps:List Pl) (A:jA) (n c':Nat) (td:List wA),B<=p/\P.length=d+1/\d<=8/\w.heap[p]? = some (.cells #[.slice (some (dA g 0)) (d+1) c,.bool nm.isSome,.slice A n c'] 210 (0,0))/\
  EH.Own w B (.slice (some (dA g 0)) (d+1) c) ps/\cI.Own w B (.slice A n c') td/\ps.length=d+1/\(ps.map Pl.m).Nodup/\
  (∀i (h:i<ps.length) (h2:i<P.length),B<=ps[i].m/\ps[i].sk=fI P[i]/\∃s,uC prog 9 w ps[i].m k s (gG P[i]))/\td.map (·.toList)=nm.getD []/\td.length=n/\n<=k
theorem xd{P:Program}{ops:Array Oper}{rest:List Oper}{o:Oper}{a:Act}{Q:Exit->Act->World->Prop}{w:World}{k:TypeId}{b n s:Nat}{f:Lit->Option Value}(hg:o.guard=none)(m x:Operand){t e:TypeId}(hop:o.op=Op.lookup t m x true)(K:Go.Maps.Keyed P k)(ht:P.underlying t=some (.map k e))(hz:(zeroValue e).run P w= .ok (.agg #[]) w)
 (hm:a.eval m= .map (some b)) (h:uC P k w b n s f) {key:Value} {l:Lit} (hx:a.eval x=key) (hkey:keyOf P k key=some l) {r:Bool} (hr:f l=if r then some (.agg #[]) else none)
 (hK:wpList P ops Q rest (a.put o.dst (.tuple #[.agg #[],.bool r])) w):wpList P ops Q (o:: rest) a w:=by
 refine Pf hg m x hop K ht hz hm h hx hkey ?_;rw[hr];cases r<;>exact hK
theorem NP(p d c:Nat)(A:jA)(w:World)(h0:w.cell? (dA p 0)=some (.slice A (d+1) c))(hd:d<=1000):
 fA 148 #[iA p] w fun e w'=>e= .returned (aA d)/\w=w':=by
 have a:IntKind.i64.wrap ((d:Int)+1-1)=d:=by
  simp[IntKind.wrap,IntKind.bits,IntKind.signed];omega
 go_enter func148,ntmps148;go_wp2_with fail;go_ret;exact⟨by first|rfl|simp,rfl⟩
theorem U4(p g d c:Nat)(w:World)(h0:w.cell? (dA p 0)=some (.slice (some (dA g 0)) (d+1) c))(hd:d<=1000):
 fA 173 #[iA p] w fun e w'=>e= .returned (.pointer (some ⟨g,d*2,none⟩))/\∃j,w'=w.drewN j:=by
 have b:Hid (∀a:World,a.cell? (dA p 0)=some (.slice (some (dA g 0)) (d+1) c)->_):=Zh (fun a f=>NP p d c (some (dA g 0)) a f hd);have i:(0:Int)<=(d:Int):=cA;have k:(d:Int)<(d:Int)+1:=cA;go_enter func173,ntmps173;go_upto_region 1 with fail;go_region_held3 (fun w'=>w'.cell? (dA p 0)=some (.slice (some (dA g 0)) (d+1) c)) (go_keep) ((first
  |(go_at_call 148;refine zA (b _ (by first|assumption|go_keep)) ?_)
  |fail))
 go_wp2_with fail;go_ret;exact⟨by first|rfl|simp,1,rfl⟩
theorem wX(op:Int)(w:World):fA 176 #[aA op] w fun e w'=>e= .returned (.bool (gD op))/\w=w':=by
 by_cases a:op=1
 ·subst a;go_enter func176,ntmps176;go_wp2_with fail;go_ret;exact⟨rfl,rfl⟩
 by_cases b:op=3
 ·subst b;go_enter func176,ntmps176;go_wp2_with fail;go_ret;exact⟨rfl,rfl⟩
 have e:gD op=false:=(by simp[gD,a,b]);rw[e];have c:=int_ne a;have d:=int_ne b;go_enter func176,ntmps176;go_wp2_with fail;go_ret;exact⟨rfl,rfl⟩
theorem dZ(op:Int)(a b:wA)(w:World):fA 174 #[.agg #[aA op,bA a,bA b]] w fun e w'=>e= .returned (.bool (pE ⟨op,a,b⟩))/\eA w w':=by
 have c:Hid (eA w (w.alloc (.cells #[aA op,bA a,bA b] 110))):=Zh (Zb _ _);have g:Hid (XB (w.alloc (.cells #[aA op,bA a,bA b] 110)) w.heap.size ⟨op,a,b⟩):=Zh (XB.new w ⟨op,a,b⟩);obtain⟨r,k⟩:=qA (gD op);have i:Hid (∀d,fA 176 #[aA op] d fun e w'=>e= .returned (.bool r)/\d=w'):=Zh (fun d=>by subst k;exact wX op d);have l:pE ⟨op,a,b⟩=(r && !b.toList.isEmpty):=(by unfold pE;rw[k]);rw[l];go_enter func174,ntmps174;go_upto_region 1 with fail;generalize w.alloc (.cells #[aA op,bA a,bA b] 110)=W at c g|-;have m:=g.c0;have n:=g.c2;simp only at m n;cases r
 ·go_wp2_with fail;refine zA (i _) ?_;go_wp2_with fail;go_ret;exact⟨rfl,c⟩
 ·by_cases f:b.toList=[]
  ·have o:(b.toList==(⟨#[]⟩:wA).toList)=true:=(by rw[f];simp[ByteArray.toList_eq]);have j:b.toList.isEmpty=true:=(by rw[f];rfl);go_wp2_with fail;refine zA (i _) ?_;go_wp2_with fail;go_ret;exact⟨by rw[j];rfl,c⟩
  ·have o:(b.toList==[])=false:=beq_eq_false_iff_ne.2 f;have j:b.toList.isEmpty=false:=(by cases h:b.toList with|nil=>exact absurd h f|cons _ _=>rfl);go_wp2_with fail;refine zA (i _) ?_;go_wp2_with fail;go_ret;exact⟨by rw[j];rfl,c⟩
theorem lU(g o m n s:Nat)(f:Lit->Option Value)(key:ByteArray)(w:World)(h0:w.cell? ⟨g,o,none⟩=some (.map (some m)))(M:uC prog 9 w m n s f)(hk:key.size<=maxLen){r:Bool}(hr:f (.string key.toList)=if r then some (.agg #[]) else none):
 Calls prog 175 #[.pointer (some ⟨g,o,none⟩),.string key] w fun e w'=>e= .returned (.bool r)/\Below w.heap.size w w':=by
 have a:=Zh M;have b:Hid (keyOf prog 9 (.string key)=some (.string key.toList)):=Zh (by rw[ByteArray.toList_eq];exact Go.WideMaps.keyOf_string_mk underlying9 hk);have c:=Zh hr;clear M hk hr;go_enter func175,ntmps175;go_wp2_with (at_lookup;refine xd rfl _ _ rfl IV underlying203 (ys _) rfl a.out rfl b.out c.out ?_);go_ret;exact⟨rfl,Zb _ _⟩
theorem YR(w:World):fA 145 #[] w fun e w'=>∃m,e= .returned (.agg #[.map (some m),.bool false])/\w.heap.size<=m/\uC prog 9 w' m 0 0 (fun _=>none)/\eA w w':=by
 have a:=@run_makeMap prog;go_enter func145,ntmps145;go_wp2_with fail;refine bodyPost_ret (v:=.agg #[.map (some (w.heap.size+1)),.bool false]) (by simp[results,results145,go_sem]) rfl ⟨w.heap.size+1,rfl,by omega,?_,?_⟩
 ·have:=uC.made prog 9 (w.alloc (.cells #[.map (some (w.heap.size+1)),.bool false] 205));simpa using this
 ·exact((Below.refl _ w).alloc Zl _).alloc DA _
theorem xe(p n c:Nat)(A:jA)(tl:Bool)(td:List wA)(s:wA)(w:World){r:Bool}(hr:r=true↔tl=true/\n<8/\s∉td)(h1:w.cell? (dA p 1)=some (.bool tl))(h2:w.cell? (dA p 2)=some (.slice A n c))
 (hn:td.length=n) (hn2:n<=1000000) (H:cI.pA w w.heap.size A td):
 fA 172 #[iA p,bA s] w fun e w'=>e= .returned (.bool r)/\w=w':=by
 have g:=Zh H;have i:=Zh hn;clear H hn;cases tl with
 |false=>
  obtain rfl:r=false:=by cases r with|true=>exact absurd (hr.1 rfl).1 nA|false=>rfl
  clear hr;go_enter func172,ntmps172;go_wp2_with fail;go_ret;exact⟨rfl,rfl⟩
 |true=>
  by_cases j:n<8
  ·have k:(n:Int)<8:=cA;by_cases b:s∈td
   ·obtain rfl:r=false:=by cases r with|true=>exact absurd b (hr.1 rfl).2.2|false=>rfl
    have d:Hid (∀a:World,cI.pA a a.heap.size A td->fA 186 #[.slice A n c,bA s] a fun e w'=>e= .returned (.bool true)/\a=w'):=Zh (fun a f=>cW td s A n c a ⟨fun _=>b,fun _=>rfl⟩ i hn2 f);clear hr b;go_enter func172,ntmps172;go_wp2_with fail;refine zA (d _ g) ?_;go_wp2_with fail;go_ret;exact⟨rfl,rfl⟩
   ·obtain rfl:r=true:=hr.2 ⟨rfl,j,b⟩;have d:Hid (∀a:World,cI.pA a a.heap.size A td->fA 186 #[.slice A n c,bA s] a fun e w'=>e= .returned (.bool false)/\a=w'):=Zh (fun a f=>cW td s A n c a ⟨fun e=>(by cases e),fun e=>absurd e b⟩ i hn2 f);clear hr b;go_enter func172,ntmps172;go_wp2_with fail;refine zA (d _ g) ?_;go_wp2_with fail;go_ret;exact⟨rfl,rfl⟩
  ·have k:¬(n:Int)<8:=cA;obtain rfl:r=false:=by cases r with|true=>exact absurd (hr.1 rfl).2.1 j|false=>rfl
   clear hr;go_enter func172,ntmps172;go_wp2_with fail;go_ret;exact⟨rfl,rfl⟩
end P13
namespace P8
open Go.RowKit Kd P4 P5
theorem jT:∀(t:TV) (w:World),vC w w.heap.size t->qF (er t)=true->countP (er t)<=1000->fA 23 #[.agg #[bA t.tag,bA t.txt,bA t.key,.slice t.sa.A t.sa.n t.sa.c,.slice t.sk.A t.sk.n t.sk.c]] w fun e w'=>e= .returned (.bool (rE (er t)))/\eA w w':=by
 intro t
 induction t using TV.ind with
 |h tag txt key sa attrs sk kids ih=>
  obtain⟨A,n,c⟩:=sa;obtain⟨a,n2,f⟩:=sk;intro w h j u;have al:attrs.length=n:=h.al;have AH:Hid (kA.pA w w.heap.size A attrs):=Zh h.ah;have F:Hid (kids.length=n2):=Zh h.kl;have KH:Hid (kT.pA w w.heap.size a kids):=Zh h.kh;have KS:Hid (∀k∈kids,vC w w.heap.size k):=Zh h.ks;have l:Hid (eA w (w.alloc (.cells #[bA tag,bA txt,bA key,.slice A n c,.slice a n2 f] 59))):=Zh (Zb _ _);have v:Hid (TB (w.alloc (.cells #[bA tag,bA txt,bA key,.slice A n c,.slice a n2 f] 59)) w.heap.size (.mk tag txt key ⟨A,n,c⟩ attrs ⟨a,n2,f⟩ kids)):=Zh (TB.new w (.mk tag txt key ⟨A,n,c⟩ attrs ⟨a,n2,f⟩ kids));rw[er,qF] at j;simp only[Bool.and_eq_true,decide_eq_true_eq] at j;obtain⟨⟨⟨⟨f1,f2⟩,f3⟩,f4⟩,f5⟩:=j;obtain⟨G,a8⟩:=PQ f4;have a7:n<=20:=cA;have m1:tag.size<=maxLen:=wD;have m2:txt.size<=maxLen:=wD;have m3:key.size<=maxLen:=wD;have F5:Hid (∀k (x:k<kids.length),qF (er kids[k])=true):=Zh (fun k x=>by
   have y:k<(oA kids).length:=(by rw[IB];simpa using x);have:=jO y f5;simpa[IB] using this)
  have AL:=Zh al;have HW:=Zh G;clear al G f4 f5;have CL:Hid (xB (oA kids)<=1000):=Zh (by rw[er,countP] at u;omega);have a9:n2<=1000:=(by have m:=aM (oA kids);rw[IB,List.length_map] at m;have h2:=F.out;have h3:=CL.out;rw[IB] at h3;omega);have C5:Hid (∀k (x:k<kids.length),countP (er kids[k])<=1000):=Zh (fun k x=>by
   have y:k<(oA kids).length:=(by rw[IB];simpa using x);have m:=WX y;have h2:=CL.out;have e:(oA kids)[k]=er kids[k]:=(by simp[IB]);rw[e] at m;omega)
  clear u;have IH:=Zh ih;obtain⟨U,H⟩:=qA (P1.NC tag.data.toList);obtain⟨bx,I⟩:=qA (P1.YB txt.data.toList);obtain⟨V,J⟩:=qA (P1.YB key.data.toList);obtain⟨X,K⟩:=qA (P3.bC attrs);obtain⟨p,L⟩:=qA (P1.fC tag.data.toList);have HN:=Zh H;have HX:=Zh I;have HK:=Zh J;have HA:=Zh K;have HV:=Zh L;clear h ih H I J K L;show fA 23 #[.agg #[bA tag,bA txt,bA key,.slice A n c,.slice a n2 f]] w _;have HT:Hid (rE (er (.mk tag txt key ⟨A,n,c⟩ attrs ⟨a,n2,f⟩ kids))=if tag.toList.isEmpty then bx&&key.toList.isEmpty&&attrs.isEmpty&&(oA kids).isEmpty else U&&V&&X&&txt.toList.isEmpty && !(p && !(oA kids).isEmpty)&&iG (oA kids)):=Zh (by rw[er,rE,HN.out,HX.out,HK.out,HA.out,HV.out]);have E1:Hid (attrs.isEmpty=decide (n=0)):=Zh (by rw[<-AL.out];cases attrs<;>simp);have E2:Hid ((oA kids).isEmpty=decide (n2=0)):=Zh (by rw[<-F.out,IB];cases kids<;>simp);go_enter func23,ntmps23;go_upto_region 1 with fail;generalize w.alloc (.cells #[bA tag,bA txt,bA key,.slice A n c,.slice a n2 f] 59)=W at l v|-;have a0:W.cell? ⟨w.heap.size,0,none⟩=some (bA tag):=v.c0;have a1:W.cell? ⟨w.heap.size,1,none⟩=some (bA txt):=v.c1;have a2:W.cell? ⟨w.heap.size,2,none⟩=some (bA key):=v.c2;have a3:W.cell? ⟨w.heap.size,3,none⟩=some (.slice A n c):=v.c3;have Y:W.cell? ⟨w.heap.size,4,none⟩=some (.slice a n2 f):=v.c4;cases tE:tag.toList.isEmpty with
  |true=>
   have q:Hid (rE (er (.mk tag txt key ⟨A,n,c⟩ attrs ⟨a,n2,f⟩ kids))=(bx&&key.toList.isEmpty&&decide (n=0)&&decide (n2=0))):=Zh (by rw[HT.out,tE,if_pos rfl,E1.out,E2.out]);go_wp2_with fail;refine zA (P3.pJ txt _ HX m2) ?_;cases bx with
   |false=>
    go_wp2_with fail;go_ret;exact⟨by rw[q.out];rfl,l⟩
   |true=>
    cases keyE:key.toList.isEmpty with
    |false=>
     go_wp2_with fail;go_ret;exact⟨by rw[q.out,keyE];rfl,l⟩
    |true=>
     by_cases z:n=0
     ·subst z;by_cases r:n2=0
      ·subst r;go_wp2_with fail;go_ret;exact⟨by rw[q.out,keyE];rfl,l⟩
      ·have aa:((n2:Int)==0)=false:=AA;go_wp2_with fail;go_ret;exact⟨by rw[q.out,keyE];simp[r],l⟩
     ·have qn:((n:Int)==0)=false:=AA;go_wp2_with fail;go_ret;exact⟨by rw[q.out,keyE];simp[z],l⟩
  |false=>
   have q:Hid (rE (er (.mk tag txt key ⟨A,n,c⟩ attrs ⟨a,n2,f⟩ kids))=(U&&V&&X&&txt.toList.isEmpty && !(p && !decide (n2=0))&&iG (oA kids))):=Zh (by rw[HT.out,tE,if_neg DA,E2.out]);go_wp2_with fail;refine zA (P3.uM tag _ HN m1) ?_;go_wp2_with fail;refine zA (P3.pJ key _ HK m3) ?_;go_wp2_with fail;refine(P3.nZ attrs A n c W AL cA HW (UE (AH.on l))).mono ?_;rintro e w2 ⟨rfl,b2⟩;rw[HA.out];have B:=Zh (l.trans (b2.mono l.size));have M:=Zh (v.below b2 v.lt);clear b2 a0 a1 a2 a3 Y;have a0:w2.cell? ⟨w.heap.size,0,none⟩=some (bA tag):=M.c0;have a1:w2.cell? ⟨w.heap.size,1,none⟩=some (bA txt):=M.c1;have Y:w2.cell? ⟨w.heap.size,4,none⟩=some (.slice a n2 f):=M.c4;go_wp2_with fail;refine zA (P1.gI tag _) ?_;rw[HV.out];have g:Hid ((U&&V&&X&&txt.toList.isEmpty && !(p && !decide (n2=0)))=false->Ending.returned (.bool false)=Ending.returned (.bool (rE (er (.mk tag txt key ⟨A,n,c⟩ attrs ⟨a,n2,f⟩ kids))))):=Zh (fun e=>by rw[q.out,e,Bool.false_and]);cases U with
   |false=>
    go_wp2_with fail;go_ret;exact⟨g rfl,B⟩
   |true=>
   cases V with
   |false=>
    go_wp2_with fail;go_ret;exact⟨g rfl,B⟩
   |true=>
   cases X with
   |false=>
    go_wp2_with fail;go_ret;exact⟨g rfl,B⟩
   |true=>
   cases xE:txt.toList.isEmpty with
   |false=>
    go_wp2_with fail;go_ret;exact⟨g (by rw[xE];rfl),B⟩
   |true=>
   by_cases N:p=true/\n2≠0
   ·obtain⟨rfl,r⟩:=N;have q1:decide ((0:Int)<(n2:Int))=true:=AA;have q2:decide (0<n2)=true:=AA;go_wp2_with fail;go_ret;exact⟨g (by rw[xE];simp[r]),B⟩
   ·have a5:Hid ((p && !decide (n2=0))=false):=Zh (by cases p<;>simp_all);have C:Hid (rE (er (.mk tag txt key ⟨A,n,c⟩ attrs ⟨a,n2,f⟩ kids))=iG (oA kids)):=Zh (by rw[q.out,xE,a5.out];simp);have O:(p=false)\/(p=true/\n2=0):=(by cases p<;>simp_all);clear g N q HT;rcases O with rfl|⟨rfl,z⟩
    ·go_wp2_with fail;go_loopw [8] (fun s wr=>∃(k:Nat),k<=n2/\s = aA k/\Hid (iG ((oA kids).take k)=true)/\Hid (eA w wr)/\Hid (TB wr w.heap.size (.mk tag txt key ⟨A,n,c⟩ attrs ⟨a,n2,f⟩ kids))) (fun s _=>n2-(intOf s).toNat)
     case atStart=>exact⟨0,by omega,rfl,Zh (by simp[iG]),B,M⟩
     case round=>
      obtain⟨k,x,rfl,Z,D,P⟩:=hrel;have Y:wr.cell? ⟨w.heap.size,4,none⟩=some (.slice a n2 f):=P.c4;by_cases Q:k<n2
      ·have i:k<kids.length:=(uA F.out);have a6:k<(oA kids).length:=(by rw[IB];simpa using i);have R:(oA kids)[k]=er kids[k]:=(by simp[IB]);obtain⟨b,o,rfl,hb,g0,g1,g2,g3,g4⟩:=TJ (KH.on D) i;have CK:Hid (fA 23 #[.agg #[bA kids[k].tag,bA kids[k].txt,bA kids[k].key,.slice kids[k].sa.A kids[k].sa.n kids[k].sa.c,.slice kids[k].sk.A kids[k].sk.n kids[k].sk.c]] wr fun e w'=>e= .returned (.bool (rE (er kids[k])))/\eA wr w'):=Zh (IH kids[k] (List.getElem_mem i) wr ((KS _ (List.getElem_mem i)).on D) (F5 k i) (C5 k i));obtain⟨mk,E⟩:=qA (rE (er kids[k]));rw[E] at CK;have S:Hid (rE (oA kids)[k]=mk):=Zh (by rw[R];exact E);have T:=Zh a6;clear E R;generalize kids[k]=d at g0 g1 g2 g3 g4 CK;go_wp2_with fail;refine CK.mono ?_;rintro e w5 ⟨rfl,b5⟩;have B5:=Zh (D.trans (b5.mono D.size));have N5:=Zh (P.below b5 P.lt);clear b5;cases mk with
       |false=>
        go_wp2_with fail;go_ret;exact⟨by rw[C.out,uZ T.out S.out];rfl,B5⟩
       |true=>
        go_wp2_with fail;go_roundw
        case rel=>exact⟨k+1,by omega,by go_num,Zh (ZX T Z S),B5,N5⟩
        case measure=>simp[intOf];omega
      ·obtain rfl:k=n2:=cA
       go_wp2_with fail;go_ret;refine⟨?_,D⟩;have m:=Z.out;rw[List.take_of_length_le (by have:=F.out;rw[IB];simp;omega)] at m;rw[C.out,m];rfl
    ·have q1:decide ((0:Int)<(n2:Int))=false:=AA;have q2:decide (0<n2)=false:=AA;go_wp2_with fail;go_loopw [8] (fun s wr=>∃(k:Nat),k<=n2/\s = aA k/\Hid (iG ((oA kids).take k)=true)/\Hid (eA w wr)/\Hid (TB wr w.heap.size (.mk tag txt key ⟨A,n,c⟩ attrs ⟨a,n2,f⟩ kids))) (fun s _=>n2-(intOf s).toNat)
     case atStart=>exact⟨0,by omega,rfl,Zh (by simp[iG]),B,M⟩
     case round=>
      obtain⟨k,x,rfl,Z,D,P⟩:=hrel;have Y:wr.cell? ⟨w.heap.size,4,none⟩=some (.slice a n2 f):=P.c4;by_cases Q:k<n2
      ·exact absurd Q cA
      ·obtain rfl:k=n2:=cA
       go_wp2_with fail;go_ret;refine⟨?_,D⟩;have m:=Z.out;rw[List.take_of_length_le (by have:=F.out;rw[IB];simp;omega)] at m;rw[C.out,m];rfl
def UQ(w:World)(most:Nat)(t:TV)(e:Ending)(w':World):Prop:=∃m:Nat,e= .returned (aA m)/\1<=m/\m<=most+1/\(m<=most->m=countP (er t)/\qF (er t)=true)/\eA w w'
theorem FP{w w':World}{most:Nat}{t:TV}(hb:eA w w'):UQ w most t (.returned (aA ((most:Int)+1))) w':=⟨most+1,by simp,by omega,by omega,fun h=>by omega,hb⟩
theorem uk:∀(t:TV) (most:Nat) (w:World),most<=1000->vC w w.heap.size t->JJ t->fA 20 #[.agg #[bA t.tag,bA t.txt,bA t.key,.slice t.sa.A t.sa.n t.sa.c,.slice t.sk.A t.sk.n t.sk.c],aA most] w (UQ w most t):=by
 intro t
 induction t using TV.ind with
 |h tag txt key sa attrs sk kids ih=>
  obtain⟨A,n,c⟩:=sa;obtain⟨f,n2,c2⟩:=sk;intro most w Y h v;have P:attrs.length=n:=h.al;have Q:Hid (kA.pA w w.heap.size A attrs):=Zh h.ah;have R:Hid (kids.length=n2):=Zh h.kl;have Z:Hid (kT.pA w w.heap.size f kids):=Zh h.kh;have KS:Hid (∀k∈kids,vC w w.heap.size k):=Zh h.ks;have i:Hid (eA w (w.alloc (.cells #[bA tag,bA txt,bA key,.slice A n c,.slice f n2 c2] 59))):=Zh (Zb _ _);have l:Hid (TB (w.alloc (.cells #[bA tag,bA txt,bA key,.slice A n c,.slice f n2 c2] 59)) w.heap.size (.mk tag txt key ⟨A,n,c⟩ attrs ⟨f,n2,c2⟩ kids)):=Zh (TB.new w (.mk tag txt key ⟨A,n,c⟩ attrs ⟨f,n2,c2⟩ kids));obtain⟨⟨E,F,G,H,I⟩,x⟩:=v;have E:tag.size<=maxLen:=E;have F:txt.size<=maxLen:=F;have G:key.size<=maxLen:=G;have H:c<=maxLen:=H;have I:c2<=maxLen:=I;have J:Hid (∀k∈kids,JJ k):=Zh x;have a5:n<=c:=h.ac;have S:n2<=c2:=h.kc;have T:=Zh P;have IH:=Zh ih;unfold maxLen at E F G H I;clear h ih x P;show fA 20 #[.agg #[bA tag,bA txt,bA key,.slice A n c,.slice f n2 c2],aA most] w _;go_enter func20,ntmps20;go_upto_region 1 with fail;generalize w.alloc (.cells #[bA tag,bA txt,bA key,.slice A n c,.slice f n2 c2] 59)=W at i l|-;have a0:W.cell? ⟨w.heap.size,0,none⟩=some (bA tag):=l.c0;have a1:W.cell? ⟨w.heap.size,1,none⟩=some (bA txt):=l.c1;have a2:W.cell? ⟨w.heap.size,2,none⟩=some (bA key):=l.c2;have a3:W.cell? ⟨w.heap.size,3,none⟩=some (.slice A n c):=l.c3;have U:W.cell? ⟨w.heap.size,4,none⟩=some (.slice f n2 c2):=l.c4;by_cases p:100<tag.size
  ·go_wp2_with fail;go_ret;exact FP i
  by_cases h2:100<txt.size
  ·go_wp2_with fail;go_ret;exact FP i
  by_cases h3:100<key.size
  ·go_wp2_with fail;go_ret;exact FP i
  cases hf:P3.ZH attrs with
  |false=>
   have K:Hid (P3.zL attrs=0):=Zh (by unfold P3.zL;rw[hf];rfl);clear hf;go_wp2_with fail;refine zA (P3.I8 attrs A n c _ T cA (UE (Q.on i))) ?_;rw[K.out];go_wp2_with fail;go_ret;exact FP i
  |true=>
   have K:Hid (P3.zL attrs=1):=Zh (by unfold P3.zL;rw[hf];rfl);have HE:Hid (∀m,bH (oA kids)=true->m=xB (oA kids)+1->m=countP (er (.mk tag txt key ⟨A,n,c⟩ attrs ⟨f,n2,c2⟩ kids))/\qF (er (.mk tag txt key ⟨A,n,c⟩ attrs ⟨f,n2,c2⟩ kids))=true):=Zh (fun m h5 h6=>by
    rw[er,countP,qF,hf,h5];exact⟨h6,by simp;omega⟩)
   clear hf;go_wp2_with fail;refine zA (P3.I8 attrs A n c _ T cA (UE (Q.on i))) ?_;rw[K.out];clear p h2 h3 a0 a1 a2 a3 U;go_wp2_with fail;go_loopw [5,6] (fun s5 L wr=>∃(k a:Nat),k<=n2/\1<=a/\a<=most+1/\L = aA k/\s5 = aA a/\Hid (a<=most->a=xB ((oA kids).take k)+1/\bH ((oA kids).take k)=true)/\Hid (eA w wr)/\Hid (TB wr w.heap.size (.mk tag txt key ⟨A,n,c⟩ attrs ⟨f,n2,c2⟩ kids))) (fun _ L _=>n2-(intOf L).toNat)
   case atStart=>exact⟨0,1,by omega,by omega,by omega,rfl,rfl,Zh (fun _=>by simp[xB,bH]),i,l⟩
   case round=>
    obtain⟨k,a,hk,y,z,rfl,rfl,V,q,M⟩:=hrel;have U:wr.cell? ⟨w.heap.size,4,none⟩=some (.slice f n2 c2):=M.c4;by_cases a6:k<n2
    ·by_cases r:a<=most
     ·have g:k<kids.length:=(uA R.out);have B:k<(oA kids).length:=(by rw[IB];simpa using g);have C:(oA kids)[k]=er kids[k]:=(by simp[IB]);have s:=Zh (dM B);have u:=Zh (fun p=>YX B p);rw[C] at s u;obtain⟨b,o,rfl,hb,g0,g1,g2,g3,g4⟩:=TJ (Z.on q) g;have j:((most-a:Nat):Int)=(most:Int)-(a:Int):=cA;have X:Hid (fA 20 #[.agg #[bA kids[k].tag,bA kids[k].txt,bA kids[k].key,.slice kids[k].sa.A kids[k].sa.n kids[k].sa.c,.slice kids[k].sk.A kids[k].sk.n kids[k].sk.c],aA ((most:Int)-(a:Int))] wr (UQ wr (most-a) kids[k])):=Zh (by
       rw[<-j];exact IH kids[k] (List.getElem_mem g) (most-a) wr cA ((KS _ (List.getElem_mem g)).on q) (J _ (List.getElem_mem g)))
      clear C j;generalize kids[k]=d at g0 g1 g2 g3 g4 X s u;go_wp2_with fail;refine X.mono ?_;rintro e w2 ⟨m',rfl,a7,a8,D,N⟩;have B2:=Zh (q.trans (N.mono q.size));have N2:=Zh (M.below N M.lt);have O:=Zh D;clear N D;go_wp2_with fail;go_roundw
      case rel=>
       refine⟨k+1,a+m',by omega,by omega,by omega,by go_num,by go_num,Zh (fun a9=>?_),B2,N2⟩;obtain⟨c1,c2⟩:=O cA;obtain⟨d1,d2⟩:=V cA;exact⟨by rw[s.out];omega,u d2 c2⟩
      case measure=>simp[intOf];omega
     ·obtain rfl:a=most+1:=cA
      go_wp2_with fail;go_ret;exact⟨most+1,rfl,by omega,by omega,fun h=>by omega,q⟩
    ·obtain rfl:k=n2:=cA
     by_cases r:a<=most
     ·go_wp2_with fail;go_ret;refine⟨a,rfl,y,z,fun _=>?_,q⟩;have p:=V r;rw[List.take_of_length_le (by have:=R.out;rw[IB];simp;omega)] at p;exact HE a p.2 p.1
     ·go_wp2_with fail;go_ret;exact⟨a,rfl,y,z,fun h=>absurd h r,q⟩
end P8
namespace P13
open Go.RowKit Kd P4 P5 P11 P12
theorem No{w:World}{D:Nat}{A:jA}{n c:Nat}{l:List In}(h:kX.Own w D (.slice A n c) l):l.length=n/\n<=c/\c<=maxLen/\(A=none->c=0)/\kX.pA w w.heap.size A l:=by
 obtain⟨i,j,k,a,b,d,e,f,g⟩:=h.slice;injection a with h1 h2 h3;subst h1;subst h2;subst h3;exact⟨b,d,e,f,g⟩
theorem any_succ{α:Type}{l:List α}{p:α->Bool}{i:Nat}(h:i<l.length):(l.take (i+1)).any p=((l.take i).any p || p l[i]):=by
 rw[List.take_add_one,List.getElem?_eq_getElem h,List.any_append];simp
theorem yq{α:Type}{l:List α}{p:α->Bool}{i:Nat}(h:i<l.length)(hp:p l[i]=true):l.any p=true:=by
 rw[List.any_eq_true];exact⟨_,List.getElem_mem h,hp⟩
def pL(y:In):Bool:=decide (y.op=7)
def Ob(w:World)(m:List In)(d:In)(s10 s11:Value)(wr:World):Prop:=∃(i:Nat) (key:Bool),i<=m.length/\s11 = aA i/\s10= .bool key/\Hid (key=(m.take i).any (cH d))/\Hid ((m.take i).any pL=false)/\Hid (eA w wr)
theorem Ih(l:List In)(A:jA)(n c k:Nat)(w:World)(hh:kX.pA w w.heap.size A l)(hn:l.length=n)(hk:k<l.length)(hl:n<=1000)(hs:∀i∈l,i.a.size<=300/\i.b.size<=300):
 fA 58 #[.slice A n c,aA k] w fun e w'=>e= .returned (aA (VD l k:Nat))/\eA w w':=by
 have KH:=Zh hh;have KL:=Zh hn;have a7:k<n:=cA;obtain⟨b,o,rfl,hb,g0,g1,g2⟩:=TG hh hk;have HW:Hid (VD l k=ZK l k l[k]):=Zh (by rw[VD,List.getElem?_eq_getElem hk]);have W:Hid (∀g,eA w g->fA 95 #[.slice (some (dA b o)) n c,aA k] g fun e w'=>e= .returned (aA (YE l l[k].a.toList k 0:Nat))/\eA g w'):=Zh (fun g h=>il l _ n c k g (hh.on h) hn hk hl);have CB:Hid (∀g,eA w g->fA 59 #[.slice (some (dA b o)) n c,aA k] g fun e w'=>e= .returned (.tuple #[aA (zE l k).1,aA ((zE l k).2:Nat)])/\eA g w'):=Zh (fun g h=>oT l _ n c k g (hh.on h) hn cA hl);have CH:Hid (∀g,eA w g->fA 96 #[.slice (some (dA b o)) n c,aA k] g (Iv g (RH l k))):=Zh (fun g h=>Gh l _ n c k g (hh.on h) hn cA hl);have a1:=hs _ (List.getElem_mem hk);have F:(zE l k).2<=1000:=(by rw[iM];have:=lP l k;omega);have a2:(RH l k).length<=1000:=by
  obtain⟨f,hf,a8⟩:=SW l k;rw[<-TW hf];have:=(tS l f (k-f)).1;omega
 have CM:Hid (∀g,fA 94 #[.agg #[aA l[k].op,bA l[k].a,bA l[k].b]] g fun e w'=>e= .returned (.bool (gB l[k]))/\eA g w'):=Zh (fun g=>OX l[k] g wD wD);generalize l[k]=d at g0 g1 g2 HW W CM;have a3:=Zh (rfl:zE l k=zE l k);obtain⟨bp,I⟩:=qA (zE l k);obtain⟨bf,t⟩:=bp;rw[I] at CB F;obtain⟨m,hm⟩:=qA (RH l k);rw[hm] at CH a2;have s:Hid (VD l k=if gB d=false then 7 else if JB d.op then YE l d.a.toList k 0 else if d.op=2 then(if t=0 then 8 else 0) else if m.any pL then 11 else if gD d.op && !d.b.toList.isEmpty&&m.any (cH d) then 10 else if d.op=1/\8<=t then 12 else 0):=Zh (by
  rw[HW.out,ZK,I,hm];rfl)
 clear hh hn hk hs HW a3 I hm a1;simp only at CB F;obtain⟨j,a,r⟩:=d;simp only at g0 g1 g2 W CM s;generalize YE l a.toList k 0=ad at W s;go_enter func58,ntmps58;go_upto_region 2 with fail;have NA:Hid (XB (w.alloc (.cells #[aA j,bA a,bA r] 110)) w.heap.size ⟨j,a,r⟩):=Zh (XB.new w ⟨j,a,r⟩);have BA:Hid (eA w (w.alloc (.cells #[aA j,bA a,bA r] 110))):=Zh (Zb _ _);generalize w.alloc (.cells #[aA j,bA a,bA r] 110)=x at NA BA|-;clear g0 g1 g2;have X:Hid (∀g,eA x g->g.cell? ⟨w.heap.size,0,none⟩=some (aA j)/\g.cell? ⟨w.heap.size,1,none⟩=some (bA a)/\g.cell? ⟨w.heap.size,2,none⟩=some (bA r)):=Zh (fun g h=>by
  have:=NA.below h NA.lt;exact⟨this.c0,this.c1,this.c2⟩)
 obtain⟨J,K,L⟩:=X x Ze;obtain⟨mb,Y⟩:=qA (gB ⟨j,a,r⟩);rw[Y] at CM s;clear Y NA;go_wp2_with fail;refine(CM x).mono ?_;rintro e Z ⟨rfl,b2⟩;have D2:=Zh b2;have M:=Zh (BA.trans (b2.mono BA.size));clear b2 J K L;obtain⟨J,K,L⟩:=X Z D2;cases mb with
 |false=>
  have B:Hid (VD l k=7):=Zh (by rw[s.out,if_pos rfl]);clear s;go_wp2_with fail;go_ret;exact⟨by rw[B.out];rfl,M⟩
 |true=>
  obtain⟨tb,N⟩:=qA (JB j);rw[N] at s;go_wp2_with fail;refine zA (WJ j Z) ?_;rw[N];cases tb with
  |true=>
   have B:Hid (VD l k=ad):=Zh (by rw[s.out,if_neg nA,if_pos rfl]);clear s;go_wp2_with fail;refine(W Z M).mono ?_;rintro e w3 ⟨rfl,U⟩;have O:=Zh (M.trans (U.mono M.size));clear U;go_wp2_with fail;go_ret;exact⟨by rw[B.out];rfl,O⟩
  |false=>
   have C:Hid (VD l k=if j=2 then(if t=0 then 8 else 0) else if m.any pL then 11 else if gD j && !r.toList.isEmpty&&m.any (cH ⟨j,a,r⟩) then 10 else if j=1/\8<=t then 12 else 0):=Zh (by
    rw[s.out,if_neg nA,if_neg nA])
   clear s W N;go_wp2_with fail;refine(CB Z M).mono ?_;rintro e w3 ⟨rfl,U⟩;have D3:=Zh (D2.trans (U.mono D2.size));have O:=Zh (M.trans (U.mono M.size));clear U J K L;obtain⟨J,K,L⟩:=X w3 D3;simp only;by_cases h2:j=2
   ·subst h2;by_cases h0:t=0
    ·subst h0;have B:Hid (VD l k=8):=Zh (by rw[C.out,if_pos rfl,if_pos rfl]);go_wp2_with fail;go_ret;exact⟨by rw[B.out];rfl,O⟩
    ·have q0:((t:Int)==0)=false:=AA;have B:Hid (VD l k=0):=Zh (by rw[C.out,if_pos rfl,if_neg h0]);go_wp2_with fail;go_ret;exact⟨by rw[B.out];rfl,O⟩
   ·have q2:=int_ne h2;have P:Hid (VD l k=if m.any pL then 11 else if gD j && !r.toList.isEmpty&&m.any (cH ⟨j,a,r⟩) then 10 else if j=1/\8<=t then 12 else 0):=Zh (by
     rw[C.out,if_neg h2])
    clear C h2;go_wp2_with fail;refine(CH w3 O).mono ?_;rintro e w4 ⟨A4,n4,c4,rfl,G,b4⟩;have D4:=Zh (D3.trans (b4.mono D3.size));have B4:=Zh (O.trans (b4.mono O.size));have OI:=No G;have M1:=Zh OI.1;have M5:=Zh OI.2.2.2.2;have a9:n4<=1000:=(uA OI.1);clear b4 J K L G OI;have ST:Hid (Ob w4 m ⟨j,a,r⟩ (.bool false) (aA 0) w4):=Zh ⟨0,false,by omega,rfl,rfl,Zh DA,Zh DA,Zh Ze⟩;go_wp2_with fail;go_loopw [10,11] (fun a4 Q wr=>Ob w4 m ⟨j,a,r⟩ a4 Q wr) (fun _ Q _=>n4-(intOf Q).toNat)
    case atStart=>exact ST
    case round=>
     obtain⟨i,key,hi,rfl,rfl,HK,HS,HB⟩:=hrel;clear ST;rw[M1.out] at hi;have D5:=Zh (D4.trans (HB.mono D4.size));have B5:=Zh (B4.trans (HB.mono B4.size));by_cases aa:i<n4
     ·have D:i<m.length:=(uA M1.out);obtain⟨b',o',rfl,_,y0,y1,y2⟩:=TG (M5.on HB) D;have S1:Hid ((m.take (i+1)).any pL=decide (m[i].op=7)):=Zh (by rw[any_succ D,HS.out];rfl);have V:Hid ((m.take (i+1)).any (cH ⟨j,a,r⟩)=(key || cH ⟨j,a,r⟩ m[i])):=Zh (by rw[any_succ D,HK.out]);have S7:Hid (m[i].op=7->VD l k=11):=Zh (fun e=>by rw[P.out,if_pos (yq D (by simp[pL,e]))]);have H:i+1<=m.length:=cA;have u:=Zh H;clear H;generalize m[i]=y at y0 y1 y2 S1 V S7;obtain⟨z,ya,R⟩:=y;simp only at y0 y1 y2 S1 V S7;go_upto_region 18 with fail;have NY:Hid (XB (wr.alloc (.cells #[aA z,bA ya,bA R] 110)) wr.heap.size ⟨z,ya,R⟩):=Zh (XB.new wr ⟨z,ya,R⟩);have BY:Hid (eA wr (wr.alloc (.cells #[aA z,bA ya,bA R] 110))):=Zh (Zb _ _);generalize wr.alloc (.cells #[aA z,bA ya,bA R] 110)=wy at NY BY|-;clear y0 y1 y2;have y0:=NY.c0;have y1:=NY.c1;have y2:=NY.c2;have v:=Zh (HB.trans (BY.mono HB.size));have B6:=Zh (B5.trans (BY.mono B5.size));obtain⟨J,K,L⟩:=X wy (D5.trans (BY.mono D5.size));by_cases h7:z=7
      ·subst h7;have B:=Zh (S7 rfl);go_wp2_with fail;go_ret;exact⟨by rw[B.out];rfl,B6⟩
      ·have q7:=int_ne h7;have S2:Hid ((m.take (i+1)).any pL=false):=Zh (by rw[S1.out];simp[h7]);clear S1 S7;by_cases S:z=1\/z=3
       ·have T:Hid ((m.take (i+1)).any (cH ⟨j,a,r⟩)=(key || (R.toList==r.toList))):=Zh (by rw[V.out,cH];simp only[gD,decide_eq_true S,Bool.true_and]);clear V;obtain⟨qb,a5⟩:=qA ((R.toList==r.toList));rw[a5] at T;rcases S with rfl|rfl
        ·cases key with
         |true=>
          go_wp2_with fail;go_roundw
          case rel=>exact⟨i+1,true,u,by go_num,rfl,Zh T.symm,S2,v⟩
          case measure=>simp[intOf];omega
         |false=>
          go_wp2_with fail;go_roundw
          case rel=>exact⟨i+1,qb,u,by go_num,by first|rfl|simp,Zh T.symm,S2,v⟩
          case measure=>simp[intOf];omega
        ·cases key with
         |true=>
          go_wp2_with fail;go_roundw
          case rel=>exact⟨i+1,true,u,by go_num,rfl,Zh T.symm,S2,v⟩
          case measure=>simp[intOf];omega
         |false=>
          go_wp2_with fail;go_roundw
          case rel=>exact⟨i+1,qb,u,by go_num,by first|rfl|simp,Zh T.symm,S2,v⟩
          case measure=>simp[intOf];omega
       ·have q1:(z==1)=false:=AA;have q3:(z==3)=false:=AA;have T:Hid ((m.take (i+1)).any (cH ⟨j,a,r⟩)=key):=Zh (by rw[V.out,cH];simp[gD,S]);clear V;go_wp2_with fail;go_roundw
        case rel=>exact⟨i+1,key,u,by go_num,rfl,Zh T.symm,S2,v⟩
        case measure=>simp[intOf];omega
     ·obtain rfl:i=n4:=cA
      have a0:Hid (key=m.any (cH ⟨j,a,r⟩)):=Zh (by rw[HK.out,<-M1.out,List.take_length]);have E:Hid (VD l k=if gD j && !r.toList.isEmpty&&key then 10 else if j=1/\8<=t then 12 else 0):=Zh (by
       have:=HS.out;rw[<-M1.out,List.take_length] at this;rw[P.out,if_neg (by rw[this];decide),a0.out])
      clear P HK HS a0;obtain⟨J,K,L⟩:=X wr D5;obtain⟨eb,a6⟩:=qA r.toList.isEmpty;rw[a6] at E;have q8:decide ((8:Int)<=(t:Int))=decide (8<=t):=(by congr 1;simp;omega);by_cases h1:j=1
      ·subst h1;cases eb<;>cases key<;>by_cases h8:8<=t
       all_goals
        go_wp2_with fail;go_ret;exact⟨by rw[E.out];simp[gD,h8],B5⟩
      ·have q1:=int_ne h1;by_cases h3:j=3
       ·subst h3;cases eb<;>cases key
        all_goals
         go_wp2_with fail;go_ret;exact⟨by rw[E.out];simp[gD],B5⟩
       ·have q3:=int_ne h3;go_wp2_with fail;go_ret;exact⟨by rw[E.out];simp[gD,h1,h3],B5⟩
theorem Gf(l:List In)(A:jA)(n c:Nat)(w:World)(hh:kX.pA w w.heap.size A l)(hn:l.length=n)(hl:n<=1000)(hs:∀i∈l,i.a.size<=300/\i.b.size<=300):
 fA 28 #[.slice A n c] w fun e w'=>e= .returned (aA (bD l:Nat))/\eA w w':=by
 by_cases D:120<n
 ·have g:bD l=13:=(by rw[bD,if_pos cA]);rw[g];have q:decide ((120:Int)<(n:Int))=true:=AA;go_enter func28,ntmps28;go_wp2_with fail;go_ret;exact⟨rfl,Ze⟩
 ·have g:Hid (bD l=if aD l l.length=0 then(if 0<(zE l l.length).2 then 8 else 0) else aD l l.length):=Zh (by rw[bD,if_neg cA]);have q:decide ((120:Int)<(n:Int))=false:=AA;have L:=Zh hh;have E:=Zh hn;have H:Hid (∀a k,eA w a->k<n->fA 58 #[.slice A n c,aA k] a fun e w'=>e= .returned (aA (VD l k:Nat))/\eA a w'):=Zh (fun a k h M=>Ih l A n c k a (hh.on h) hn cA hl hs);have I:Hid (∀a,eA w a->fA 59 #[.slice A n c,aA n] a fun e w'=>e= .returned (.tuple #[aA (zE l l.length).1,aA ((zE l l.length).2:Nat)])/\eA a w'):=Zh (fun a h=>by rw[hn];exact oT l A n c n a (hh.on h) hn Zl hl);have j:(zE l l.length).2<=1000:=(by rw[iM];have:=lP l l.length;omega);clear hh hn hs;go_enter func28,ntmps28;go_wp2_with fail;go_loopw [3] (fun s wr=>∃i:Nat,i<=n/\s = aA i/\Hid (aD l i=0)/\Hid (eA w wr)) (fun s _=>n-(intOf s).toNat)
  case atStart=>exact⟨0,by omega,rfl,Zh rfl,Zh Ze⟩
  case round=>
   obtain⟨i,N,rfl,t,f⟩:=hrel;by_cases y:i<n
   ·have d:=Zh (H wr i f y);have u:Hid (VD l i≠0->bD l=VD l i):=Zh (fun m=>by
     have:=iY t m (uA E.out);rw[g.out,this,if_neg m])
    have v:Hid (VD l i=0->aD l (i+1)=0):=Zh (fun J=>by rw[aD,if_pos t.out,J]);generalize VD l i=x at d u v;go_wp2_with fail;refine d.mono ?_;rintro e K ⟨rfl,o⟩;have r:=Zh (f.trans (o.mono f.size));clear o d;by_cases hx:x=0
    ·subst hx;have z:=Zh (v rfl);clear v u;go_wp2_with fail;go_roundw
     case rel=>exact⟨i+1,by omega,by go_num,z,r⟩
     case measure=>simp[intOf];omega
    ·have F:((x:Int) != 0)=true:=AA;have B:=Zh (u hx);clear v u;go_wp2_with fail;go_ret;exact⟨by rw[B.out];rfl,r⟩
   ·obtain rfl:i=n:=cA
    have b:Hid (bD l=if 0<(zE l l.length).2 then 8 else 0):=Zh (by rw[g.out,if_pos (by rw[E.out];exact t.out)]);have d:=Zh (I wr f);generalize zE l l.length=p at d j b;obtain⟨O,C⟩:=p;simp only at d j b;clear g t;go_wp2_with fail;refine d.mono ?_;rintro e K ⟨rfl,o⟩;have r:=Zh (f.trans (o.mono f.size));clear o d;simp only;by_cases G:0<C
    ·have F:decide ((0:Int)<(C:Int))=true:=AA;go_wp2_with fail;go_ret;exact⟨by rw[b.out,if_pos G];rfl,r⟩
    ·have F:decide ((0:Int)<(C:Int))=false:=AA;go_wp2_with fail;go_ret;exact⟨by rw[b.out,if_neg G];rfl,r⟩
end P13
namespace P16
open Go.RowKit Kd P4 P5 P11 P12 P13 P14 Mv
theorem Nl:laidOutB prog=true:=by kernel_rfl
theorem mc:(194:TypeId)<prog.types.size:=of_decide_eq_true (by kernel_rfl)
theorem Vr:(match prog.underlying 194 with|some (.array _ _)|some (.struct _)=>true|_=>false)=true:=by rw[underlying194]
theorem SO:WideMaps.KeyLaw prog 194:=deep_law_laid Nl (m:=2) cA mc (by kernel_rfl) Vr
def SE(t k:ByteArray):Lit:=.string (keyBytes [.string t.data.toList,.string k.data.toList])
theorem Lt:prog.keyType 194=true:=by kernel_rfl
theorem XY:prog.cellsOf 194=2:=by kernel_rfl
theorem Vh:prog.cellsOf 9=1:=by kernel_rfl
theorem Wr:∃m,prog.types.size=m+1:=⟨prog.types.size-1,(Nat.succ_pred_eq_of_pos (Nat.lt_of_le_of_lt (Nat.zero_le _) mc)).symm⟩
theorem PO{tag key:wA}(h1:tag.size<=maxLen)(h2:key.size<=maxLen):keyOf prog 194 (.agg #[.string tag,.string key])=some (SE tag key):=by
 obtain⟨m,a⟩:=Wr;unfold keyOf;simp only[underlying194];rw[if_pos (by simp[Lt,Value.formed,underlying194,XY]),a];unfold Program.keyLits;simp only[underlying194,Value.cells];rw[if_pos (by rw[XY];exact⟨rfl,by simp⟩)];simp[Vh,Program.keyLits,underlying9,h1,h2,SE]
theorem ub{t k t' k':wA}(h1:t.size<=maxLen)(h2:k.size<=maxLen)(h3:t'.size<=maxLen)(h4:k'.size<=maxLen)(h:SE t k=SE t' k'):t=t'/\k=k':=by
 have:=SO.inj (PO h1 h2) (by rw[h];exact PO h3 h4);simpa using this
theorem ja(w:World):(zeroValue 3).run prog w= .ok (aA 0) w:=by kernel_rfl
def YL(o:Option Value)(a:Int):Prop:=(o=none/\a = -1)\/o=some (aA a)
def DR(old:List Ol)(left:List Bool)(f:Lit->Option Value):Prop:=∀t k:wA,t.size<=maxLen->k.size<=maxLen->t.toList.isEmpty=false->k.toList.isEmpty=false->
 ∃i:Nat,YL (f (SE t k)) (tF old t k i)/\∀(j:Nat) (h:j<old.length),j<i->DF t k old[j]=true->left[j]? = some false
def nc(old:List Ol)(nl:List Int)(i:Nat):Prop:=∀(j:Nat) (h:j<old.length),i<=j->old[j].tag.toList.isEmpty=false->old[j].key.toList.isEmpty=false->nl[j]? = some (tF old old[j].tag old[j].key (j+1))
def QV(A:jA)(n c g F m h:Nat):Obj:=.cells #[.slice A n c,.slice (some (dA g 0)) n n,aA (F:Int),.map (some m),.slice (some (dA h 0)) n n] 217 (0,0)
structure Lf(w:World)(B p g h m:Nat)(A:jA)(n c:Nat)(old:List Ol)(left:List Bool)(F s:Nat)(f:Lit->Option Value)(nl:List Int):Prop where
 mA:w.heap[p]? = some (QV A n c g F m h)
 Bp:B<=p
 Bm:B<=m
 yF:kO.pA w B A old
 own:cE.Own w B (.slice (some (dA g 0)) n n) (left.map not)
 nx:kI.Own w B (.slice (some (dA h 0)) n n) nl
 map:uC prog 194 w m s s f
 sz:s<=1000
 len:old.length=n
 QL:left.length=n
 small:n<=1000
 Mt:∀o∈old,o.tag.size<=maxLen/\o.key.size<=maxLen
 front:F<=n
 gone:∀i:Nat,i<F->left[i]? = some false
 nm:DR old left f
 BI:nc old nl 0
def W3(p g m:Nat)(k:Nat):Prop:=k=p\/k=g\/k=m
section
variable{w w':World}{B p g h m:Nat}{A:jA}{n c:Nat}{old:List Ol}{left:List Bool}{F s:Nat}{f:Lit->Option Value}{nl:List Int}
theorem uJ{k:TypeId}{b n s:Nat}{f:Lit->Option Value}(h:uC prog k w b n s f){g:Nat}{cur:Array Value}{t:TypeId}{fr:Nat×Nat}(h':w.heap[g]? = some (.cells cur t fr)):g≠b:=fun e=>by
 obtain⟨c,d,a⟩:=h.mA;exact kK a h' e.symm
theorem Lf.GR(x:Lf w B p g h m A n c old left F s f nl):∃cur,w.heap[g]? = some (.cells cur 4 (0,0)):=x.own.ty rfl
theorem Lf.SV(x:Lf w B p g h m A n c old left F s f nl):∃cur,w.heap[h]? = some (.cells cur 3 (0,0)):=x.nx.ty rfl
theorem Lf.pg(x:Lf w B p g h m A n c old left F s f nl):p≠g:=by obtain⟨a,b⟩:=x.GR;exact RA x.mA b nA
theorem Lf.ph(x:Lf w B p g h m A n c old left F s f nl):p≠h:=by obtain⟨a,b⟩:=x.SV;exact RA x.mA b nA
theorem Lf.gh(x:Lf w B p g h m A n c old left F s f nl):g≠h:=by obtain⟨d,e⟩:=x.SV;obtain⟨b,a⟩:=x.GR;exact RA a e nA
theorem Lf.pm(x:Lf w B p g h m A n c old left F s f nl):p≠m:=uJ x.map x.mA
theorem Lf.gm(x:Lf w B p g h m A n c old left F s f nl):g≠m:=by obtain⟨a,b⟩:=x.GR;exact uJ x.map b
theorem Lf.hm(x:Lf w B p g h m A n c old left F s f nl):h≠m:=by obtain⟨a,b⟩:=x.SV;exact uJ x.map b
theorem Lf.Bg(x:Lf w B p g h m A n c old left F s f nl):B<=g:=(x.own.lt rfl).1
theorem Lf.gJ(x:Lf w B p g h m A n c old left F s f nl):p<w.heap.size:=FA x.mA
theorem Lf.le(x:Lf w B p g h m A n c old left F s f nl):B<=w.heap.size:=by have:=x.gJ;have:=x.Bp;omega
theorem Lf.but{S:Nat->Prop}(x:Lf w B p g h m A n c old left F s f nl)(hb:gA S w w')(hS:∀i,S i->B<=i/\i≠p/\i≠g/\i≠h/\i≠m):Lf w' B p g h m A n c old left F s f nl:=by
 have a:∀i,i<w.heap.size->i=p\/i=g\/i=h\/i=m->w'.heap[i]? = w.heap[i]?:=fun i d e=>hb.block i d (fun j=>by
  obtain⟨_,l,o,q,r⟩:=hS i j;rcases e with e|e|e|e<;>contradiction)
 exact {x with
  mA:=(a p x.gJ (.inl rfl)).trans x.mA
  yF:=x.yF.sB (fun b _ k=>hb.block b (uA x.le) (fun j=>by have:=(hS b j).1;omega))
  own:=x.own.sB (fun i d=>a i (x.own.lt d).2 (.inr (.inl (Option.some.inj d).symm)))
  nx:=x.nx.sB (fun i d=>a i (x.nx.lt d).2 (.inr (.inr (.inl (Option.some.inj d).symm))))
  map:=x.map.kept (a m x.map.lt (.inr (.inr (.inr rfl))))}
theorem Lf.below{C:Nat}(x:Lf w B p g h m A n c old left F s f nl)(hb:Below C w w')(h1:B<=C)(h2:p<C)(h3:g<C)(h4:h<C)(h5:m<C):Lf w' B p g h m A n c old left F s f nl:=
 x.but (S:=fun i=>C<=i) ⟨hb.os,hb.tape,hb.output,hb.size,fun i _ a=>hb.block i cA⟩ (fun i b=>by omega)
theorem Lf.on(x:Lf w B p g h m A n c old left F s f nl)(hb:eA w w'):Lf w' B p g h m A n c old left F s f nl:=
 x.below hb x.le x.gJ (x.own.lt rfl).2 (x.nx.lt rfl).2 x.map.lt
theorem Lf.drewN(x:Lf w B p g h m A n c old left F s f nl)(k:Nat):Lf (w.drewN k) B p g h m A n c old left F s f nl:=x.on (PA Ze k)
theorem Lf.alloc(x:Lf w B p g h m A n c old left F s f nl)(o:Obj):Lf (w.alloc o) B p g h m A n c old left F s f nl:=x.on (Ze.alloc Zl o)
theorem Lf.xK(x:Lf w B p g h m A n c old left F s f nl){B':Nat}{v:Value}{l:List Int}(hv:kI.Own w B' v l):∀i,v.ownBlock=some i->¬W3 p g m i:=fun i d e=>by
 obtain⟨j,a⟩:=hv.ty d;obtain⟨b,k⟩:=x.GR;rcases e with rfl|rfl|rfl
 ·exact RA x.mA a nA rfl
 ·exact RA k a nA rfl
 ·exact uJ x.map a rfl
theorem Lf.c0(x:Lf w B p g h m A n c old left F s f nl):w.cell? (dA p 0)=some (.slice A n c):=cell_of_row w p 0 _ _ (0,0) x.mA
theorem Lf.c1(x:Lf w B p g h m A n c old left F s f nl):w.cell? (dA p 1)=some (.slice (some (dA g 0)) n n):=cell_of_row w p 1 _ _ (0,0) x.mA
theorem Lf.c2(x:Lf w B p g h m A n c old left F s f nl):w.cell? (dA p 2)=some (aA (F:Int)):=cell_of_row w p 2 _ _ (0,0) x.mA
theorem Lf.c3(x:Lf w B p g h m A n c old left F s f nl):w.cell? (dA p 3)=some (.map (some m)):=cell_of_row w p 3 _ _ (0,0) x.mA
theorem Lf.c4(x:Lf w B p g h m A n c old left F s f nl):w.cell? (dA p 4)=some (.slice (some (dA h 0)) n n):=cell_of_row w p 4 _ _ (0,0) x.mA
theorem Lf.fz(x:Lf w B p g h m A n c old left F s f nl)(o:Nat):w.frozen? (dA p o)=false:=by
 have a:=x.mA;unfold QV at a;simp[World.frozen?,a]
theorem Lf.taken(x:Lf w B p g h m A n c old left F s f nl){i:Nat}(hi:i<n):∃b,left[i]? = some b/\w.cell? (dA g i)=some (.bool (!b))/\w.frozen? (dA g i)=false:=by
 have a:i<left.length:=(uA x.QL);obtain⟨d,e,_⟩:=eK x.own (k:=i) (by simpa using a);exact⟨left[i],List.getElem?_eq_getElem a,by simpa using d,e⟩
theorem Lf.next(x:Lf w B p g h m A n c old left F s f nl){i:Nat}(hi:i<old.length)(h1:old[i].tag.toList.isEmpty=false)(h2:old[i].key.toList.isEmpty=false):w.cell? (dA h i)=some (aA (tF old old[i].tag old[i].key (i+1))):=by
 obtain⟨t,u,v,l,j,_,_,_,q⟩:=x.nx.slice;injection l with h3 h4 h5;subst h3;subst h4;subst h5;have r:=x.BI i hi (Nat.zero_le _) h1 h2;obtain⟨a,d⟩:=List.getElem?_eq_some_iff.1 r;obtain⟨b,o,e,_,k⟩:=mD q a;injection e with e;injection e with j e2 _;subst j;subst e2;rw[d] at k;simpa using k
theorem map_set{left:List Bool}{i:Nat}:(left.map not).set i true=(left.set i false).map not:=by
 rw[List.map_set];rfl
theorem Y3{left:List Bool}{i j:Nat}(hj:left[j]? = some false):(left.set i false)[j]? = some false:=by
 rw[List.getElem?_set];have a:j<left.length:=(List.getElem?_eq_some_iff.1 hj).1;by_cases e:i=j
 ·subst e;rw[if_pos rfl,if_pos a]
 ·rw[if_neg e];exact hj
theorem DR.mono{left':List Bool}(hn:DR old left f)(hm:∀j:Nat,left[j]? = some false->left'[j]? = some false):DR old left' f:=fun t k a b c d=>by
 obtain⟨i,e,g⟩:=hn t k a b c d;exact⟨i,e,fun j h l m=>hm j (g j h l m)⟩
theorem Lf.step(x:Lf w B p g h m A n c old left F s f nl)(hF:F<n)(hl:left[F]? = some false):Lf (w.setCell (dA p 2) (aA ((F:Int)+1))) B p g h m A n c old left (F+1) s f nl:=by
 have d:gA (fun k=>k=p) w (w.setCell (dA p 2) (aA ((F:Int)+1))):=mH w p 2 _;have j:∀i,i<w.heap.size->i≠p->(w.setCell (dA p 2) (aA ((F:Int)+1))).heap[i]? = w.heap[i]?:=fun i a l=>d.block i a l
 exact {x with
  mA:=heap_set x.mA 2 _
  yF:=x.yF.sB (fun b _ o=>j b (uA x.le) (fun e=>by have:=x.Bp;omega))
  own:=x.own.but d (fun i a e=>x.pg (by rw[<-e];exact Option.some.inj a.symm))
  nx:=x.nx.but d (fun i a e=>x.ph (by rw[<-e];exact Option.some.inj a.symm))
  map:=x.map.kept (j m x.map.lt (fun e=>x.pm e.symm))
  front:=hF
  gone:=fun i a=>by
   by_cases e:i=F
   ·subst e;exact hl
   ·exact x.gone i cA}
theorem Lf.take(x:Lf w B p g h m A n c old left F s f nl){i:Nat}(hi:i<n):Lf (w.setCell (dA g i) (.bool true)) B p g h m A n c old (left.set i false) F s f nl:=by
 have o:gA (fun k=>k=g) w (w.setCell (dA g i) (.bool true)):=mH w g i _;have l:∀j,j<w.heap.size->j≠g->(w.setCell (dA g i) (.bool true)).heap[j]? = w.heap[j]?:=fun j a q=>o.block j a q
 have r:i<left.length:=(uA x.QL);obtain⟨_,_,d⟩:=eK x.own (k:=i) (by simpa using r);have d:=d true;rw[map_set] at d;exact {x with
  mA:=(l p x.gJ x.pg).trans x.mA
  yF:=x.yF.sB (fun b _ t=>l b (uA x.le) (fun e=>by have:=x.Bg;omega))
  own:=d
  nx:=x.nx.but o (fun j a e=>x.gh (by rw[<-e];exact Option.some.inj a.symm))
  map:=x.map.kept (l m x.map.lt (fun e=>x.gm e.symm))
  QL:=by rw[List.length_set];exact x.QL
  gone:=fun j a=>Y3 (x.gone j a)
  nm:=x.nm.mono (fun j a=>Y3 a)}
theorem Lf.name(x:Lf w B p g h m A n c old left F s f nl){t k:wA}{a:Int}(ht:t.size<=maxLen)(hk:k.size<=maxLen)(hs:(f (SE t k)).isSome=true)(i:Nat)(ha:tF old t k i=a)(hi:∀(j:Nat) (h:j<old.length),j<i->DF t k old[j]=true->left[j]? = some false)
 (hm:uC prog 194 w' m (s+1) (if(f (SE t k)).isSome then s else s+1) (OJ f (SE t k) (some (aA a)))) (hg:w.grownBy w' (some m)):Lf w' B p g h m A n c old left F s (OJ f (SE t k) (some (aA a))) nl:=by
 have l:gA (fun k=>k=m) w w':=gA.sG hg (fun j d _=>(Option.some.inj d).symm);rw[if_pos hs] at hm;exact {x with
  mA:=(l.block p x.gJ x.pm).trans x.mA
  yF:=x.yF.sB (fun b _ v=>l.block b (uA x.le) (fun e=>by have:=x.Bm;omega))
  own:=x.own.but l (fun j d e=>x.gm (by rw[<-e];exact Option.some.inj d))
  nx:=x.nx.but l (fun j d e=>x.hm (by rw[<-e];exact Option.some.inj d))
  map:=hm.tight
  nm:=fun o q r u y z=>by
   by_cases e:SE o q=SE t k
   ·obtain⟨rfl,rfl⟩:=ub r u ht hk e;exact⟨i,.inr (by rw[(WK f _ _).1,ha]),hi⟩
   ·rw[(WK f _ _).2 _ e];exact x.nm o q r u y z}
end
end P16
namespace P10
open Go.RowKit Kd P4 P5 P8
end P10
namespace P16
open Go.RowKit Kd P4 P5 P11 P12 P13 P14 Mv
theorem SR(t k:wA)(w:World):fA 150 #[.agg #[bA t,bA k]] w fun e w'=>e= .returned (.bool (!t.toList.isEmpty))/\eA w w':=by
 have c:Hid (eA w (w.alloc (.cells #[bA t,bA k] 194))):=Zh (Zb _ _);have d:Hid ((w.alloc (.cells #[bA t,bA k] 194)).heap[w.heap.size]? = some (.cells #[bA t,bA k] 194 (0,0))):=Zh (heap_alloc_new w _);go_enter func150,ntmps150;go_upto_region 1 with fail;generalize w.alloc (.cells #[bA t,bA k] 194)=W at c d|-;have g:=IA 0 d;obtain⟨f,a⟩:=qA t.toList.isEmpty;cases f
 all_goals
  go_wp2_with fail;go_ret;exact⟨by first|rfl|simp[a],c⟩
theorem uX{w:World}{p m n s:Nat}{f:Lit->Option Value}(hc:w.cell? (dA p 3)=some (.map (some m)))(hp:p<w.heap.size)(hm:uC prog 194 w m n s f)(t k:wA)(ht:t.size<=maxLen)(hk:k.size<=maxLen)(a:Int)(ha:YL (f (SE t k)) a):
 fA 151 #[iA p,.agg #[bA t,bA k]] w fun e w'=>e= .returned (aA a)/\eA w w':=by
 have j:=Zh hc;have l:=Zh hp;have b:=Zh (PO ht hk);have c:Hid (eA w (w.alloc (.cells #[bA t,bA k] 194))):=Zh (Zb _ _);have d:Hid ((w.alloc (.cells #[bA t,bA k] 194)).heap[w.heap.size]? = some (.cells #[bA t,bA k] 194 (0,0))):=Zh (heap_alloc_new w _);have g:=Zh (hm.alloc (.cells #[bA t,bA k] 194));clear hm hc hp;go_enter func151,ntmps151;go_upto_region 1 with fail;have o:=(c.cell (p:=(dA p 3)) l).trans j;generalize w.alloc (.cells #[bA t,bA k] 194)=W at c d g o|-;have q:=IA 0 d;have r:=IA 1 d;rcases ha with⟨hn,rfl⟩|hs
 ·have i:=(g.kept (w':=W.drew) rfl).look_ok (Maps.Keyed.of_law SO) underlying215 (ja _) b;rw[hn] at i;go_region_held3 (fun w'=>w'.cell? (dA p 3)=some (.map (some m))/\w'.cell? ⟨w.heap.size,0,none⟩=some (bA t)/\w'.cell? ⟨w.heap.size,1,none⟩=some (bA k)) (go_keep) (fail);go_wp2_with fail;go_ret;exact⟨rfl,PA c _⟩
 ·have i:=(g.kept (w':=W.drew) rfl).look_ok (Maps.Keyed.of_law SO) underlying215 (ja _) b;rw[hs] at i;go_region_held3 (fun w'=>w'.cell? (dA p 3)=some (.map (some m))/\w'.cell? ⟨w.heap.size,0,none⟩=some (bA t)/\w'.cell? ⟨w.heap.size,1,none⟩=some (bA k)) (go_keep) (fail);go_wp2_with fail;go_ret;exact⟨rfl,PA c _⟩
theorem me{w:World}{B p g h m:Nat}{A:jA}{n c:Nat}{old:List Ol}{left:List Bool}{F s:Nat}{f:Lit->Option Value}{nl:List Int}(x:Lf w B p g h m A n c old left F s f nl)(t k:wA)(ht:t.size<=maxLen)(hk:k.size<=maxLen)(a:Int)(ha:YL (f (SE t k)) a):
 fA 151 #[iA p,.agg #[bA t,bA k]] w fun e w'=>e= .returned (aA a)/\eA w w':=uX x.c3 x.gJ x.map t k ht hk a ha
def Ic(left:List Bool)(n F:Nat)(a:Int):Prop:=(F=n/\a = -1)\/(F<n/\a=(F:Int)/\left[F]? = some true)
theorem mJ{w:World}{B p g h m:Nat}{A:jA}{n c:Nat}{old:List Ol}{left:List Bool}{F s:Nat}{f:Lit->Option Value}{nl:List Int}(x:Lf w B p g h m A n c old left F s f nl):
 fA 157 #[iA p] w fun e w'=>∃(F':Nat) (a:Int),e= .returned (aA a)/\Ic left n F' a/\F<=F'/\Lf w' B p g h m A n c old left F' s f nl/\gA (fun k=>k=p) w w':=by
 have r:=Zh x;have v:=x.small;have l:F<=n:=x.front;clear x;go_enter func157,ntmps157;go_wp2_with fail
 go_loopg [] (n-F) (fun q wr=>∃F':Nat,q=n-F'/\F<=F'/\F'<=n/\Hid (Lf wr B p g h m A n c old left F' s f nl)/\Hid (gA (fun k=>k=p) w wr))
 case atStart=>exact⟨F,rfl,Zl,l,r,Zh (gA.refl _ _)⟩
 case round=>
  obtain⟨F',rfl,t,z,d,o⟩:=hrel;clear r;have C:=d.c0;have D:=d.c1;have E:=d.c2;by_cases i:F'<n
  ·obtain⟨b,u,G,H⟩:=d.taken i;have j:=Zh u;clear u;cases b with
   |true=>
    go_upto_region 1 with fail;go_quiet (fail);go_upto_region 3 with fail;go_quiet (fail);go_wp2_with fail;go_ret;exact⟨F',_,rfl,.inr ⟨i,rfl,j⟩,t,d.drewN _,o.drewN _⟩
   |false=>
    have y:=d.fz 2;go_upto_region 1 with fail;go_quiet (fail);go_wp2_with fail
    go_roundg (n-(F'+1))
    case measure=>omega
    case rel=>exact⟨F'+1,rfl,by omega,by omega,Zh ((d.drewN _).step i j),Zh (gA.setCell (S:=fun k=>k=p) (p:=(dA p 2)) (o.drewN _) (fun _=>rfl) _)⟩
  ·obtain rfl:F'=n:=cA
   go_upto_region 1 with fail;go_quiet (fail);go_upto_region 3 with fail;go_quiet (fail);go_wp2_with fail;go_ret;exact⟨F',_,rfl,.inl ⟨rfl,rfl⟩,t,(d.drewN _).drewN _,(o.drewN _).drewN _⟩
end P16
namespace P19
open P5 P6 P14 P16
def UH(l:List Nd)(y:Int):wA:=match find l y with
 |some x=>x.key
 |none=>⟨#[]⟩
structure Tg(d d':D):Prop where
 n:d.n<=d'.n
 room:d'.R=d.R
 tag:∀y,y<=d.n->lA d'.l y=true->lA d.l y=true/\MA d'.l y=MA d.l y/\UH d'.l y=UH d.l y
theorem Tg.refl(d:D):Tg d d:=⟨Int.le_refl _,rfl,fun _ _ h=>⟨h,rfl,rfl⟩⟩
theorem Tg.trans{d d' d2:D}(h:Tg d d')(k:Tg d' d2):Tg d d2:=⟨Int.le_trans h.n k.n,k.room.trans h.room,fun y a b=>by
 obtain⟨c,e,f⟩:=k.tag y (Int.le_trans a h.n) b;obtain⟨g,i,j⟩:=h.tag y a c;exact⟨g,e.trans i,f.trans j⟩⟩
theorem mO{l:List Nd}{i:Int}{f:Nd->Nd}(h1:∀x,(f x).id=x.id)(h2:∀x,(f x).tag=x.tag)(h3:∀x,(f x).key=x.key)(y:Int):MA (iB l i f) y=MA l y/\UH (iB l i f) y=UH l y:=by
 unfold MA UH;rw[TP l i f h1];cases find l y with
 |none=>exact⟨rfl,rfl⟩
 |some x=>
  simp only[Option.map_some];by_cases e:x.id=i
  ·rw[if_pos e];exact⟨h2 x,h3 x⟩
  ·rw[if_neg e];exact⟨rfl,rfl⟩
theorem gT(l:List Nd)(i y:Int):MA (QA l i) y=MA l y/\UH (QA l i) y=UH l y:=by
 unfold QA;split
 ·exact⟨rfl,rfl⟩
 ·obtain⟨a,b⟩:=mO (l:=iB l (yA l i) (ZC (less i))) (i:=i) (f:=rD 0) (fun _=>rfl) (fun _=>rfl) (fun _=>rfl) y;obtain⟨c,d⟩:=mO (l:=l) (i:=yA l i) (f:=ZC (less i)) (fun _=>rfl) (fun _=>rfl) (fun _=>rfl) y;exact⟨a.trans c,b.trans d⟩
theorem Sa{d:D}{i:Int}{f:Nd->Nd}(h1:∀x,(f x).id=x.id)(h2:∀x,(f x).tag=x.tag)(h3:∀x,(f x).key=x.key):Tg d {d with l:=iB d.l i f}:=
 ⟨Int.le_refl _,rfl,fun y _ a=>⟨by rw[<-bO d.l i f h1 y];exact a,mO h1 h2 h3 y⟩⟩
theorem dK{d:D}(hw:WF d)(r:Rc):Tg d (VA d r).2:=by
 unfold VA;split
 ·unfold jD;split
  ·exact Tg.refl d
  split
  ·exact Tg.refl d
  ·rename_i b e;simp only[ne_eq,not_or,Classical.not_not] at b;refine⟨by show d.n<=d.n+1;omega,rfl,fun y s a=>?_⟩;have g:lA d.l (GC r.id r.tag r.txt r.key).id=false:=by
    show lA d.l r.id=false;rw[b.1];exact hw.next
   have j:y≠(GC r.id r.tag r.txt r.key).id:=by
    show y≠r.id;rw[b.1];omega
   have c:find (d.l++[GC r.id r.tag r.txt r.key]) y=find d.l y:=(by rw[MN g,if_neg j]);refine⟨?_,?_,?_⟩
   ·have:lA (d.l++[GC r.id r.tag r.txt r.key]) y=true:=a;unfold lA at this|-;rwa[c] at this
   ·show MA (d.l++[GC r.id r.tag r.txt r.key]) y=_;unfold MA;rw[c]
   ·show UH (d.l++[GC r.id r.tag r.txt r.key]) y=_;unfold UH;rw[c]
 split
 ·unfold oD;split
  ·refine⟨Int.le_refl _,rfl,fun y _ a=>⟨by rw[<-pU y];exact a,?_⟩⟩;show MA (OC d.l r.id r.par r.rA) y=_/\UH (OC d.l r.id r.par r.rA) y=_;unfold OC;obtain⟨m,n⟩:=mO (l:=iB (QA d.l r.id) r.par (ZC (ED r.id r.rA))) (i:=r.id) (f:=rD r.par) (fun _=>rfl) (fun _=>rfl) (fun _=>rfl) y;obtain⟨o,p⟩:=mO (l:=QA d.l r.id) (i:=r.par) (f:=ZC (ED r.id r.rA)) (fun _=>rfl) (fun _=>rfl) (fun _=>rfl) y;obtain⟨b,e⟩:=gT d.l r.id y;exact⟨(m.trans o).trans b,(n.trans p).trans e⟩
  ·exact Tg.refl d
 split
 ·unfold OD;split
  ·exact Tg.refl d
  split
  ·exact Tg.refl d
  ·refine⟨Int.le_refl _,rfl,fun y _ a=>?_⟩;have a:lA (qE d.l r.id) y=true:=a;unfold qE at a;obtain⟨k,q⟩:=(fO _ _ _).1 a;rw[eG] at k;obtain⟨b,e⟩:=gT d.l r.id y;have c:find (qE d.l r.id) y=find (QA d.l r.id) y:=(by unfold qE;rw[rJ,if_neg q]);refine⟨k,?_,?_⟩
   ·rw[<-b];show MA (qE d.l r.id) y=_;unfold MA;rw[c]
   ·rw[<-e];show UH (qE d.l r.id) y=_;unfold UH;rw[c]
 split
 ·unfold fD;split
  ·exact Tg.refl d
  split
  ·exact Tg.refl d
  split
  ·exact Tg.refl d
  ·exact Sa (fun _=>rfl) (fun _=>rfl) (fun _=>rfl)
 split
 ·unfold GD;split
  ·exact Tg.refl d
  split
  ·exact Tg.refl d
  split
  ·exact Tg.refl d
  ·exact Sa (fun _=>rfl) (fun _=>rfl) (fun _=>rfl)
 ·exact Tg.refl d
theorem vY(d:D)(r:Rc):(VA d r).2.l.length<=d.l.length+(if r.op=1 then 1 else 0):=by
 unfold VA;split
 ·unfold jD;split
  ·simp
  split
  ·simp
  ·simp
 split
 ·unfold oD;split
  ·show(OC d.l r.id r.par r.rA).length<=_;rw[KI (U7 (l:=d.l))];omega
  ·simp
 split
 ·unfold OD;split
  ·simp
  split
  ·simp
  ·show(qE d.l r.id).length<=_;have a:(qE d.l r.id).length<=(QA d.l r.id).length:=List.length_filter_le _ _;have b:=KI (hH d.l r.id);omega
 split
 ·unfold fD;split
  ·simp
  split
  ·simp
  split
  ·simp
  ·show(iB d.l r.id (gH r.attrs)).length<=_;rw[KI (aO d.l r.id (gH r.attrs) (fun _=>rfl))];omega
 split
 ·unfold GD;split
  ·simp
  split
  ·simp
  split
  ·simp
  ·show(iB d.l r.id (tH r.txt)).length<=_;rw[KI (aO d.l r.id (tH r.txt) (fun _=>rfl))];omega
 ·simp
def JD(s:Sg)(r:Rc):Prop:=(VA s.1 r).1=0
theorem zU{s:Sg}{i p b:Int}(h:lK s.1.l i p b):JD s (vB i p b):=by
 unfold JD;have c:tC s.1.l i p b=0:=by
  unfold tC;rw[if_neg,if_neg h.h1,if_neg (by rw[h.hk];decide),if_neg,if_neg (by rw[h.hn];decide)]
  ·rintro⟨d,f⟩;rcases h.hb with e|⟨_,a,e3⟩
   ·exact d e
   ·rcases f with e|e
    ·exact e a
    ·exact e3 e
  ·rintro(e|e|⟨g,a⟩)
   ·rw[h.hi] at e;cases e
   ·rw[h.hp] at e;cases e
   ·rcases h.hb with e|⟨e3,_⟩
    ·exact g e
    ·rw[e3] at a;cases a
 show(VA s.1 (vB i p b)).1=0;unfold VA;rw[if_neg (show¬(vB i p b).op=1 from(by decide:¬(2:Int)=1)),if_pos (show(vB i p b).op=2 from rfl)];unfold oD;rw[if_pos (show tC s.1.l (vB i p b).id (vB i p b).par (vB i p b).rA=0 from c)]
theorem Vj{s:Sg}{i:Int}(h:lA s.1.l i=true)(h1:i≠1):JD s (FE i):=by
 unfold JD VA;rw[if_neg (show¬(FE i).op=1 from(by decide:¬(3:Int)=1)),if_neg (show¬(FE i).op=2 from(by decide:¬(3:Int)=2)),if_pos (show(FE i).op=3 from rfl)];unfold OD;rw[if_neg (show¬lA s.1.l (FE i).id=false by show¬lA s.1.l i=false;rw[h];decide),if_neg (show¬(FE i).id=1 from h1)]
theorem ZZ{s:Sg}{i:Int}{a:List P3.At}(h:lA s.1.l i=true)(ht:(MA s.1.l i).toList≠[])(ha:P3.bC a=true):JD s (rC i a):=by
 unfold JD VA;rw[if_neg (show¬(rC i a).op=1 from(by decide:¬(4:Int)=1)),if_neg (show¬(rC i a).op=2 from(by decide:¬(4:Int)=2)),if_neg (show¬(rC i a).op=3 from(by decide:¬(4:Int)=3)),if_pos (show(rC i a).op=4 from rfl)];unfold fD;rw[if_neg (show¬lA s.1.l (rC i a).id=false by show¬lA s.1.l i=false;rw[h];decide),if_neg (show¬(MA s.1.l (rC i a).id).toList=[] from ht),if_neg (show¬P3.bC (rC i a).attrs=false by show¬P3.bC a=false;rw[ha];decide)]
theorem Wj{s:Sg}{i:Int}{t:wA}(h:lA s.1.l i=true)(ht:(MA s.1.l i).toList=[])(ha:P1.YB t.data.toList=true):JD s (eE i t):=by
 unfold JD VA;rw[if_neg (show¬(eE i t).op=1 from(by decide:¬(5:Int)=1)),if_neg (show¬(eE i t).op=2 from(by decide:¬(5:Int)=2)),if_neg (show¬(eE i t).op=3 from(by decide:¬(5:Int)=3)),if_neg (show¬(eE i t).op=4 from(by decide:¬(5:Int)=4)),if_pos (show(eE i t).op=5 from rfl)];unfold GD;rw[if_neg (show¬lA s.1.l (eE i t).id=false by show¬lA s.1.l i=false;rw[h];decide),if_neg (show¬(MA s.1.l (eE i t).id).toList≠[] from fun e=>e ht),if_neg (show¬P1.YB (eE i t).txt.data.toList=false by show¬P1.YB t.data.toList=false;rw[ha];decide)]
theorem Xj{s:Sg}{tag txt key:wA}(hm:wC tag txt key=true)(hr:s.1.l.length<s.1.R):JD s (jB (s.1.n+1) tag txt key):=by
 unfold JD VA;rw[if_pos (show(jB (s.1.n+1) tag txt key).op=1 from rfl)];unfold jD;rw[if_neg (show¬((jB (s.1.n+1) tag txt key).id≠s.1.n+1\/wC (jB (s.1.n+1) tag txt key).tag (jB (s.1.n+1) tag txt key).txt (jB (s.1.n+1) tag txt key).key=false) from ?_),if_neg (show¬s.1.R<=s.1.l.length by omega)];rintro(e|e)
 ·exact e rfl
 ·have:wC tag txt key=false:=e;rw[hm] at this;cases this
theorem Vc{d:D}(hw:WF d){i p:Int}(hi:i≠0)(hp:yA d.l i=p):inside d.l p i=false:=by
 unfold inside;rw[decide_eq_false_iff_not];intro a;obtain⟨j,b,_⟩:=fR _ _ _ a;refine hw.tr.MK (x:=i) (j:=j) hi ?_;show it (yA d.l) j (yA d.l i)=i;rw[hp];exact b
theorem Pc{d:D}(hw:WF d){i p:Int}(hi:lA d.l i=true)(hk:xA d.l i=[])(hne:p≠i):inside d.l p i=false:=by
 unfold inside;rw[decide_eq_false_iff_not];intro b;obtain⟨j,a,_⟩:=fR _ _ _ b;cases j with
 |zero=>exact hne a
 |succ j=>
  rw[UF] at a;have c:yA d.l (it (yA d.l) j p)≠0:=(by rw[a];exact hw.tr.SF hi);have:=hw.tr.par _ c;rw[a,hk] at this;cases this
def jK(par b:Int):List Int->Sg->Prop
 |[],_=>True
 |i:: l,s=>JD s (vB i par b)/\jK par b l (GA s (vB i par b))
def fL:List Int->Sg->Prop
 |[],_=>True
 |i:: l,s=>JD s (FE i)/\fL l (GA s (FE i))
def DJ(s:Sg)(par:Int)(left:List Int)(beh id:Int)(k:Nat):Prop:=
 k≠0->(inside s.1.l s.1.foc id=false->JD s (vB id par (aB left 0)))/\(inside s.1.l s.1.foc id=true->jK par (aB (left.drop (k+1)) beh) (left.take k) s)
abbrev lN:=Sg->Int->List Int->List PW->Prop
def uH(recOk:lN)(x:PW)(id:Int)(s:Sg):Prop:=
 (x.kind=2->(jC s.1.l id).txt.toList≠x.txt.toList->JD s (eE id x.txt))/\
 (x.kind=1->(P3.zD (P3.aC (jC s.1.l id).attrs x.attrs) (jC s.1.l id).attrs=false->JD s (rC id (P3.aC (jC s.1.l id).attrs x.attrs)))/\recOk (KF x id s) id (xA (KF x id s).1.l id) x.kids)
def VI(recOk:lN)(par b:Int)(x:PW)(s:Sg):Prop:=
 JD s (jB (s.1.n+1) x.tag x.txt x.key)/\JD (GA s (jB (s.1.n+1) x.tag x.txt x.key)) (vB (s.1.n+1) par b)/\
 (P3.pC x.attrs≠[]->JD (YD par b x s) (rC (s.1.n+1) (P3.pC x.attrs)))/\(x.kind=1->recOk (rF par b x s) (s.1.n+1) (xA (rF par b x s).1.l (s.1.n+1)) x.kids)
def WU(recOk:lN)(rec:Rec)(par beh:Int)(ids:List Int)(x:PW)(t:Int)(p:Sg×List Int):Prop:=
 x.kind≠4->(0<=t->DJ p.1 par p.2 beh (ids.getD t.toNat 0) (p.2.idxOf (ids.getD t.toNat 0))/\(x.kind≠3->uH recOk x (ids.getD t.toNat 0) (UB p.1 par p.2 beh (ids.getD t.toNat 0) (p.2.idxOf (ids.getD t.toNat 0))).1))/\
  (¬0<=t->x.kind≠3->VI recOk par (aB p.2 beh) x p.1)
def GF:Nat->Sg->Int->List Int->Int->List PW->Prop
 |0,_,_,_,_,_=>True
 |f+1,s,par,ids,beh,want=>
  (∀i (h:i<want.length),WU (fun s i ks w=>GF f s i ks 0 w) (fun s i ks w=>DB f s i ks 0 w) par beh ids want[i] ((foldM (ids.map (dB s.1.l)) want).take[i]'(by rw[take_len];exact h)) (lC (fun s i ks w=>DB f s i ks 0 w) par beh ids (ids.map (dB s.1.l)) want s i))/\
  fL (lC (fun s i ks w=>DB f s i ks 0 w) par beh ids (ids.map (dB s.1.l)) want s want.length).2 (lC (fun s i ks w=>DB f s i ks 0 w) par beh ids (ids.map (dB s.1.l)) want s want.length).1
end P19
namespace P19
open P5 P6 P11 P12 P14 P16
inductive BG:PW->Prop
 |mk {kind:Int} {tag key txt:wA} {attrs:List P3.At} {kids:List PW} (ha:P3.bC attrs=true) (hk:∀k∈kids,BG k):BG (.mk kind tag key txt attrs kids)
theorem BG.mB{x:PW}(h:BG x):P3.bC x.attrs=true:=by cases h;assumption
theorem BG.ks{x:PW}(h:BG x):∀k∈x.kids,BG k:=by cases h;assumption
def NO(rec:Rec):Prop:=∀s i ks w,(∀x∈w,VB x)->(rec s i ks w).1.l.length<=s.1.l.length+fB w
section
variable{rec:Rec}{s:Sg}{par beh:Int}{ids:List Int}{want:List PW}{old:List Ol}
theorem gL(s:Sg){r:Rc}(h:r.op≠1):(GA s r).1.l.length<=s.1.l.length:=by
 have:=vY s.1 r;rw[if_neg h] at this;exact this
theorem Yj(s:Sg)(r:Rc):(GA s r).1.l.length<=s.1.l.length+1:=by
 have:=vY s.1 r;have a:(GA s r).1.l.length=(VA s.1 r).2.l.length:=rfl;split at this<;>omega
theorem wY(par b:Int):∀(l:List Int) (s:Sg),(tD par b l s).1.l.length<=s.1.l.length
 |[],s=>Zl
 |i:: l,s=>Nat.le_trans (wY par b l (GA s (vB i par b))) (gL s (show(2:Int)≠1 by decide))
theorem iX:∀(l:List Int) (s:Sg),(xD l s).1.l.length<=s.1.l.length
 |[],s=>Zl
 |i:: l,s=>Nat.le_trans (iX l (GA s (FE i))) (gL s (show(3:Int)≠1 by decide))
theorem xY(s:Sg)(par:Int)(left:List Int)(beh id:Int)(k:Nat):(UB s par left beh id k).1.1.l.length<=s.1.l.length:=by
 unfold UB;simp only;split
 ·exact Zl
 split
 ·exact gL s (show(2:Int)≠1 by decide)
 ·exact wY _ _ _ _
theorem xO{x:PW}(h:x.kind=1):aG x=1+fB x.kids:=by
 cases x with
 |mk kind tag key txt attrs kids=>
  have h:kind=1:=h;rw[aG,if_neg cA,if_pos h];rfl
theorem Ta{x:PW}(h:x.kind=2):aG x=1:=by
 cases x with
 |mk kind tag key txt attrs kids=>
  have h:kind=2:=h;rw[aG,if_pos h]
theorem UK{x:PW}(h:VB x):∀k∈x.kids,VB k:=by
 cases h with
 |el _ _ hk=>exact hk
 |vo=>exact fun _ h=>by cases h
 |tx=>exact fun _ h=>by cases h
 |nd=>exact fun _ h=>by cases h
 |al=>exact fun _ h=>by cases h
theorem QT{x:PW}(h:VB x):x.kind=1\/x.kind=2\/x.kind=3\/x.kind=4:=by
 cases h with
 |el=>exact .inl rfl
 |vo=>exact .inl rfl
 |tx=>exact .inr (.inl rfl)
 |nd=>exact .inr (.inr (.inl rfl))
 |al=>exact .inr (.inr (.inr rfl))
theorem yY(x:PW)(id:Int)(s:Sg):(KF x id s).1.l.length<=s.1.l.length:=by
 unfold KF;split
 ·exact gL s (show(4:Int)≠1 by decide)
 ·exact Zl
theorem Re(R:NO rec){x:PW}(hw:VB x)(id:Int)(s:Sg):(IE rec x id s).1.l.length<=s.1.l.length+aG x:=by
 by_cases a:x.kind=1
 ·rw[sP a,xO a];have:=R (KF x id s) id (xA (KF x id s).1.l id) x.kids (UK hw);have:=yY x id s;omega
 by_cases b:x.kind=2
 ·rw[rP b];split
  ·have:=gL s (r:=eE id x.txt) (show(5:Int)≠1 by decide);omega
  ·omega
 ·rw[NT a b];omega
theorem zY(par b:Int)(x:PW)(s:Sg):(rF par b x s).1.l.length<=s.1.l.length+1:=by
 have a:(YD par b x s).1.l.length<=s.1.l.length+1:=Nat.le_trans (gL _ (show(2:Int)≠1 by decide)) (Yj s _);unfold rF;split
 ·exact a
 ·exact Nat.le_trans (gL _ (show(4:Int)≠1 by decide)) a
theorem ik(R:NO rec){x:PW}(hw:VB x)(h4:x.kind≠4)(h3:x.kind≠3)(par b:Int)(s:Sg):(dF rec par b x s).1.l.length<=s.1.l.length+aG x:=by
 have h:=zY par b x s;rcases QT hw with h1|h1|h1|h1
 ·rw[sQ h1,xO h1];have:=R (rF par b x s) (s.1.n+1) (xA (rF par b x s).1.l (s.1.n+1)) x.kids (UK hw);omega
 ·rw[VU cA,Ta h1];exact h
 ·exact absurd h1 h3
 ·exact absurd h1 h4
theorem Zg(R:NO rec){x:PW}(hw:VB x)(t:Int)(p:Sg×List Int):(PD rec par beh ids x t p).1.1.l.length<=p.1.1.l.length+aG x:=by
 unfold PD;split
 ·exact Nat.le_add_right _ _
 rename_i h4;split
 ·simp only;have a:=xY p.1 par p.2 beh (ids.getD t.toNat 0) (p.2.idxOf (ids.getD t.toNat 0));split
  ·omega
  ·have:=Re R hw (ids.getD t.toNat 0) (UB p.1 par p.2 beh (ids.getD t.toNat 0) (p.2.idxOf (ids.getD t.toNat 0))).1;simp only;omega
 split
 ·exact Nat.le_add_right _ _
 ·rename_i h3;exact ik R hw h4 h3 par _ p.1
theorem BP{l:List PW}{i:Nat}(hi:i<l.length):fB (l.take (i+1))=fB (l.take i)+aG l[i]:=by
 have c:∀a b:List PW,fB (a++b)=fB a+fB b:=by
  intro a b
  induction a with
  |nil=>simp[fB]
  |cons x r ih=>rw[List.cons_append,fB,fB,ih];omega
 rw[List.take_succ_eq_append_getElem hi,c];simp[fB]
theorem m0:∀{l:List PW} {i:Nat} (hi:i<l.length),fB (l.take i)+aG l[i]<=fB l
 |[],i,hi=>by simp at hi
 |x:: r,0,_=>by rw[List.take_zero,fB,fB,List.getElem_cons_zero];omega
 |x:: r,i+1,hi=>by
  have:=m0 (l:=r) (i:=i) (by simpa using hi);rw[List.take_succ_cons,fB,fB,List.getElem_cons_succ];omega
theorem AU(R:NO rec)(hw:∀x∈want,VB x):∀i,i<=want.length->(lC rec par beh ids old want s i).1.1.l.length<=s.1.l.length+fB (want.take i)
 |0,_=>by
  show s.1.l.length<=_;omega
 |i+1,hi=>by
  have ih:=AU R hw i cA;have hi':i<want.length:=cA;rw[sJ hi',BP hi'];have:=Zg (par:=par) (beh:=beh) (ids:=ids) R (hw _ (List.getElem_mem hi')) ((foldM old want).take[i]'(by rw[take_len];exact hi')) (lC rec par beh ids old want s i);omega
theorem o0:∀f:Nat,NO (fun s i ks w=>DB f s i ks 0 w)
 |0=>fun s i ks w _=>by
  show s.1.l.length<=_;omega
 |f+1=>fun s i ks w hw=>by
  show(DB (f+1) s i ks 0 w).1.l.length<=_;rw[jJ];have h1:=AU (par:=i) (beh:=0) (ids:=ks) (old:=ks.map (dB s.1.l)) (s:=s) (o0 f) hw w.length Zl;rw[List.take_length] at h1;exact Nat.le_trans (iX _ _) h1
end
structure Jn(s0:Sg)(par:Int)(ids:List Int)(s:Sg):Prop where
 lv:Lv s0 par ids s
 tg:Tg s0.1 s.1
 may:pG s.1
structure J0(s0:Sg)(par:Int):Prop where
 wf:WF s0.1
 p0:par≠0
 hp:lA s0.1.l par=true
section
variable{s0 s:Sg}{par:Int}{ids:List Int}
theorem Jn.here(b:J0 s0 par)(h:Jn s0 par ids s):lA s.1.l par=true/\MA s.1.l par=MA s0.1.l par:=by
 have a:=(h.lv.st par b.hp (Hn b.wf b.p0)).1;exact⟨a,(h.tg.tag par (b.wf.pos b.hp).2 a).2.1⟩
theorem Jn.Vb(b:J0 s0 par)(h:Jn s0 par ids s){a:Int}(ha:a∈ids):a≠1:=fun e=>by
 have:=(h.lv.lB a ha).2;rw[e,h.lv.wf.tL] at this;exact b.p0 this.symm
theorem Jn.Gb(b:J0 s0 par)(hk:wB (MA s0.1.l par)=false)(h:Jn s0 par ids s){a c:Int}(ha:a∈ids)(hc:c=0\/c∈ids/\c≠a):lK s.1.l a par c:=by
 obtain⟨f,g⟩:=h.here b;obtain⟨d,i⟩:=h.lv.lB a ha;refine⟨d,f,?_,Vc h.lv.wf (h.lv.wf.tr.SF d) i,h.Vb b ha,by rw[g];exact hk⟩;rcases hc with e|⟨e,hne⟩
 ·exact .inl e
 ·exact .inr ⟨(h.lv.lB c e).1,(h.lv.lB c e).2,hne⟩
theorem Jn.Ps(h:Jn s0 par ids s){r:Rc}(hl:Lv s0 par ids (GA s r)):Jn s0 par ids (GA s r):=⟨hl,h.tg.trans (dK h.lv.wf r),lG YG h.may r⟩
theorem Jn.put(b:J0 s0 par)(h:Jn s0 par ids s){a:Int}(ha:a∈ids)(c:Int):Jn s0 par ids (GA s (vB a par c)):=h.Ps (h.lv.put b.wf (h.lv.lB a ha).2 c)
theorem Jn.tag(b:J0 s0 par)(h:Jn s0 par ids s){a:Int}(ha:a∈ids)(hs:lA s0.1.l a=true):MA s.1.l a=MA s0.1.l a:=(h.tg.tag a (b.wf.pos hs).2 (h.lv.lB a ha).1).2.1
theorem RT(b:J0 s0 par)(hk:wB (MA s0.1.l par)=false){c:Int}:∀(l:List Int) {s:Sg},Jn s0 par ids s->(∀a∈l,a∈ids/\(c=0\/c∈ids/\c≠a))->jK par c l s/\Jn s0 par ids (tD par c l s)
 |[],s,h,_=>⟨trivial,h⟩
 |a:: l,s,h,hl=>by
  obtain⟨h1,h2⟩:=hl a DA;obtain⟨h3,h4⟩:=RT b hk l (h.put b h1 c) (fun x hx=>hl x (by simp[hx]));exact⟨⟨zU (h.Gb b hk h1 h2),h3⟩,h4⟩
theorem jk(b:J0 s0 par)(hk:wB (MA s0.1.l par)=false)(h:Jn s0 par ids s){left:List Int}{beh a:Int}(hl:∀i∈left,i∈ids)(hd:left.Nodup)(ha:a∈left)(hb:beh=0\/beh∈ids/\beh∉left):
 DJ s par left beh a (left.idxOf a)/\Jn s0 par ids (UB s par left beh a (left.idxOf a)).1:=by
 have g:=List.idxOf_lt_length_iff.2 ha;have l:left[left.idxOf a]=a:=List.getElem_idxOf g;have d:∀x∈left.take (left.idxOf a),x∈ids/\(aB (left.drop (left.idxOf a+1)) beh=0\/aB (left.drop (left.idxOf a+1)) beh∈ids/\aB (left.drop (left.idxOf a+1)) beh≠x):=fun x hx=>by
  refine⟨hl x (List.mem_of_mem_take hx),?_⟩;cases hdr:left.drop (left.idxOf a+1) with
  |nil=>
   show beh=0\/beh∈ids/\beh≠x;rcases hb with e|⟨e1,e2⟩
   ·exact .inl e
   ·exact .inr ⟨e1,fun e=>e2 (e▸List.mem_of_mem_take hx)⟩
  |cons c r=>
   show c=0\/c∈ids/\c≠x;have k:c∈left.drop (left.idxOf a+1):=(by rw[hdr];simp);refine .inr ⟨hl c (List.mem_of_mem_drop k),fun e=>?_⟩;have m:(left.take (left.idxOf a+1)++left.drop (left.idxOf a+1)).Nodup:=(by rw[List.take_append_drop];exact hd);exact(List.nodup_append.1 m).2.2 x ((List.take_subset_take_left left cA) hx) c k e.symm
 have f:left.idxOf a≠0->aB left 0=0\/aB left 0∈ids/\aB left 0≠a:=fun j=>by
  cases left with
  |nil=>cases ha
  |cons c r=>
   refine .inr ⟨hl c DA,fun e=>j ?_⟩;have e:c=a:=e;rw[e];simp
 refine⟨fun j=>⟨fun _=>zU (h.Gb b hk (hl a ha) (f j)),fun _=>(RT b hk _ h d).1⟩,?_⟩;unfold UB;simp only;split
 ·exact h
 split
 ·exact h.put b (hl a ha) _
 ·exact(RT b hk _ h d).2
theorem iT(b:J0 s0 par):∀(l:List Int) {ids:List Int} {s:Sg},Jn s0 par ids s->(∀i∈l,i∈ids)->l.Nodup->fL l s
 |[],_,_,_,_,_=>trivial
 |i:: l,ids,s,h,hl,hd=>by
  obtain⟨hd1,hd2⟩:=List.nodup_cons.1 hd;have hi:=h.lv.lB i (hl i DA);have h2:Jn s0 par l (GA s (FE i)):=by
   refine⟨⟨fE h.lv.wf _,h.lv.st.trans b.wf h.lv.wf (eX h.lv.wf hi.2),fun j hj=>?_⟩,h.tg.trans (dK h.lv.wf _),lG YG h.may _⟩;have hj2:=h.lv.lB j (hl j (by simp[hj]));have hne:j≠i:=fun e=>hd1 (e▸hj)
   obtain⟨a1,a2⟩:=yS h.lv.wf hj2.1 hne (UU h.lv.wf b.p0 hi.2 hj2.2);exact⟨a1,a2.trans hj2.2⟩
  exact⟨Vj hi.1 (h.Vb b (hl i DA)),iT b l h2 (fun j hj=>hj) hd2⟩
end
end P19
namespace P14
open Go.RowKit Kd P4 P5 P11 P12 P13
section
variable{K:Kind prog WV}{w w':World}{C D:Nat}{Q R S:Nat->Prop}{t:WV}
end
end P14
end Go.Proofs.YtngnkmeaaneklaaGreat
