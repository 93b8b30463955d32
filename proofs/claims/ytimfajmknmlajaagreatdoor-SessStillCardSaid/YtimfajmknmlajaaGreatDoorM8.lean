/- A part of the proof. No condition. -/
import Derived.Deep.DrawnRows
import Derived.DeepKeys4
import Derived.Lib.AppendStr
import Derived.Deep.RegionHeld3
import Derived.Below
import Derived.Test.YtimfajmknmlajaaGreatDoorM1
import Derived.Test.YtimfajmknmlajaaGreatDoorM2
import Derived.Test.YtimfajmknmlajaaGreatDoorM3
import Derived.Test.YtimfajmknmlajaaGreatDoorM4
import Derived.Test.YtimfajmknmlajaaGreatDoorM5
import Derived.Test.YtimfajmknmlajaaGreatDoorM6
set_option linter.unusedVariables false
set_option linter.unusedSimpArgs false
set_option maxRecDepth 100000
set_option maxHeartbeats 40000000
namespace Go.Proofs.YtimfajmknmlajaaGreatDoor
open Go.Proofs.Tryz
namespace P5
open Go.RowKit Kd P4
variable{B q:Nat}
attribute [local go_sem ↓] Go.wp_at_zero Go.wp_at_succ
end P5
namespace P13
open Go.RowKit Kd P4 P11 P12 Mv
structure Pl where
 m:Nat
 sk:Bool
theorem Av:(prog.info? 301).map (fun i=>(i.zero,i.size,i.bytes))=some (some (.agg #[.map none,.bool false]),2,16):=by kernel_rfl
def aI:Kind prog Pl where
 t:=303
 e:=301
 size:=2
 bytes:=16
 z:=.agg #[.map none,.bool false]
 cs:=fun a=>[.map (some a.m),.bool a.sk]
 ht:=underlying303
 info:=LH Av
 zH:=rfl
 zG:=by decide
 BH:=by decide
 len:=fun _=>rfl
 one:=fun a u hu=>by simp at hu;rcases hu with rfl|rfl<;>rfl
theorem FW:Go.Maps.Keyed prog 9:=Go.Maps.string_keyed underlying9
theorem Zw(w:World):(zeroValue 136).run prog w= .ok (.agg #[]) w:=by kernel_rfl
def yI(L:List In):Bool:=L.any (fun y=>decide (y.op=7))
def wJ(L:List In)(s:uA):Bool:=!s.isEmpty&&L.any (fun y=>FE y.op&&(y.b.toList==s))
def yG(L:List In):Lit->Option Value
 | .string s=>if wJ L s then some (.agg #[]) else none
 |_=>none
theorem XZ:yG []=fun _=>none:=by
 funext x;cases x<;>simp[yG,wJ]
def iE(x:In):Bool:=FE x.op && !x.b.toList.isEmpty
theorem uU(L:List In)(x:In)(s:uA):wJ (L++[x]) s=(wJ L s || (iE x&&(x.b.toList==s))):=by
 unfold wJ iE;rw[List.any_append,List.any_cons,List.any_nil,Bool.or_false];by_cases h:x.b.toList=s
 ·subst h;cases x.b.toList.isEmpty<;>cases FE x.op<;>simp
 ·have a:(x.b.toList==s)=false:=beq_eq_false_iff_ne.2 h;rw[a];simp
theorem YZ{L:List In}{x:In}(h:iE x=false):yG (L++[x])=yG L:=by
 funext y;cases y<;>simp[yG,uU,h]
theorem Hk{L:List In}{x:In}(h:iE x=true):dQ (yG L) (yG (L++[x])) (.string x.b.toList) (some (.agg #[])):=by
 constructor
 ·simp[yG,uU,h]
 ·intro y a;cases y with
  |string s=>
   have b:(x.b.toList==s)=false:=beq_eq_false_iff_ne.2 (fun e=>a (by rw[e]));simp[yG,uU,b]
  |_=>rfl
def xJ(w:World)(B p k:Nat)(P:List (List In))(nm:Option (List (uA))):Prop:=
 ∃(g c d:Nat) (ps:List Pl) (A:vA) (n c':Nat) (td:List qA),B<=p/\P.length=d+1/\d<=8/\w.heap[p]? = some (.cells #[.slice (some (cA g 0)) (d+1) c,.bool nm.isSome,.slice A n c'] 306 (0,0))/\
  aI.Own w B (.slice (some (cA g 0)) (d+1) c) ps/\uI.Own w B (.slice A n c') td/\ps.length=d+1/\(ps.map Pl.m).Nodup/\
  (∀i (h:i<ps.length) (h2:i<P.length),B<=ps[i].m/\ps[i].sk=yI P[i]/\∃s,zC prog 9 w ps[i].m k s (yG P[i]))/\td.map (·.toList)=nm.getD []/\td.length=n/\n<=k
theorem Ye{P:Program}{ops:Array Oper}{rest:List Oper}{o:Oper}{a:Act}{Q:Exit->Act->World->Prop}{w:World}{k:TypeId}{b n s:Nat}{f:Lit->Option Value}(hg:o.guard=none)(m x:Operand){t e:TypeId}(hop:o.op=Op.lookup t m x true)(K:Go.Maps.Keyed P k)(ht:P.underlying t=some (.map k e))(hz:(zeroValue e).run P w= .ok (.agg #[]) w)
 (hm:a.eval m= .map (some b)) (h:zC P k w b n s f) {key:Value} {l:Lit} (hx:a.eval x=key) (hkey:keyOf P k key=some l) {r:Bool} (hr:f l=if r then some (.agg #[]) else none)
 (hK:wpList P ops Q rest (a.put o.dst (.tuple #[.agg #[],.bool r])) w):wpList P ops Q (o:: rest) a w:=by
 refine Lh hg m x hop K ht hz hm h hx hkey ?_;rw[hr];cases r<;>exact hK
theorem VQ(p d c:Nat)(A:vA)(w:World)(h0:w.cell? (cA p 0)=some (.slice A (d+1) c))(hd:d<=1000):
 jA 226 #[lA p] w fun e w'=>e= .returned (aA d)/\w=w':=by
 have a:IntKind.i64.wrap ((d:Int)+1-1)=d:=by
  simp[IntKind.wrap,IntKind.bits,IntKind.signed];omega
 go_enter func226,ntmps226;go_wp2_with fail;go_ret;exact⟨by first|rfl|simp,rfl⟩
theorem q9(p g d c:Nat)(w:World)(h0:w.cell? (cA p 0)=some (.slice (some (cA g 0)) (d+1) c))(hd:d<=1000):
 jA 251 #[lA p] w fun e w'=>e= .returned (.pointer (some ⟨g,d*2,none⟩))/\∃j,w'=w.drewN j:=by
 have b:Hid (∀a:World,a.cell? (cA p 0)=some (.slice (some (cA g 0)) (d+1) c)->_):=Zh (fun a f=>VQ p d c (some (cA g 0)) a f hd);have i:(0:Int)<=(d:Int):=dA;have k:(d:Int)<(d:Int)+1:=dA;go_enter func251,ntmps251;go_upto_region 1 with fail;go_region_held3 (fun w'=>w'.cell? (cA p 0)=some (.slice (some (cA g 0)) (d+1) c)) (go_keep) ((first
  |(go_at_call 226;refine PA (b _ (by first|assumption|go_keep)) ?_)
  |fail))
 go_wp2_with fail;go_ret;exact⟨by first|rfl|simp,1,rfl⟩
theorem FY(op:Int)(w:World):jA 254 #[aA op] w fun e w'=>e= .returned (.bool (FE op))/\w=w':=by
 by_cases a:op=1
 ·subst a;go_enter func254,ntmps254;go_wp2_with fail;go_ret;exact⟨rfl,rfl⟩
 by_cases b:op=3
 ·subst b;go_enter func254,ntmps254;go_wp2_with fail;go_ret;exact⟨rfl,rfl⟩
 have e:FE op=false:=(by simp[FE,a,b]);rw[e];have c:=int_ne a;have d:=int_ne b;go_enter func254,ntmps254;go_wp2_with fail;go_ret;exact⟨rfl,rfl⟩
theorem ZZ(op:Int)(a b:qA)(w:World):jA 252 #[.agg #[aA op,bA a,bA b]] w fun e w'=>e= .returned (.bool (iE ⟨op,a,b⟩))/\fA w w':=by
 have c:Hid (fA w (w.alloc (.cells #[aA op,bA a,bA b] 183))):=Zh (Zb _ _);have g:Hid (XB (w.alloc (.cells #[aA op,bA a,bA b] 183)) w.heap.size ⟨op,a,b⟩):=Zh (XB.new w ⟨op,a,b⟩);obtain⟨r,k⟩:=DA (FE op);have i:Hid (∀d,jA 254 #[aA op] d fun e w'=>e= .returned (.bool r)/\d=w'):=Zh (fun d=>by subst k;exact FY op d);have l:iE ⟨op,a,b⟩=(r && !b.toList.isEmpty):=(by unfold iE;rw[k]);rw[l];go_enter func252,ntmps252;go_upto_region 1 with fail;generalize w.alloc (.cells #[aA op,bA a,bA b] 183)=W at c g|-;have m:=g.c0;have n:=g.c2;simp only at m n;cases r
 ·go_wp2_with fail;refine PA (i _) ?_;go_wp2_with fail;go_ret;exact⟨rfl,c⟩
 ·by_cases f:b.toList=[]
  ·have o:(b.toList==(⟨#[]⟩:qA).toList)=true:=(by rw[f];simp[ByteArray.toList_eq]);have j:b.toList.isEmpty=true:=(by rw[f];rfl);go_wp2_with fail;refine PA (i _) ?_;go_wp2_with fail;go_ret;exact⟨by rw[j];rfl,c⟩
  ·have o:(b.toList==[])=false:=beq_eq_false_iff_ne.2 f;have j:b.toList.isEmpty=false:=(by cases h:b.toList with|nil=>exact absurd h f|cons _ _=>rfl);go_wp2_with fail;refine PA (i _) ?_;go_wp2_with fail;go_ret;exact⟨by rw[j];rfl,c⟩
theorem PU(g o m n s:Nat)(f:Lit->Option Value)(key:ByteArray)(w:World)(h0:w.cell? ⟨g,o,none⟩=some (.map (some m)))(M:zC prog 9 w m n s f)(hk:key.size<=maxLen){r:Bool}(hr:f (.string key.toList)=if r then some (.agg #[]) else none):
 Calls prog 253 #[.pointer (some ⟨g,o,none⟩),.string key] w fun e w'=>e= .returned (.bool r)/\Below w.heap.size w w':=by
 have a:=Zh M;have b:Hid (keyOf prog 9 (.string key)=some (.string key.toList)):=Zh (by rw[ByteArray.toList_eq];exact Go.WideMaps.keyOf_string_mk underlying9 hk);have c:=Zh hr;clear M hk hr;go_enter func253,ntmps253;go_wp2_with (at_lookup;refine Ye rfl _ _ rfl FW underlying299 (Zw _) rfl a.out rfl b.out c.out ?_);go_ret;exact⟨rfl,Zb _ _⟩
theorem iT(w:World):jA 223 #[] w fun e w'=>∃m,e= .returned (.agg #[.map (some m),.bool false])/\w.heap.size<=m/\zC prog 9 w' m 0 0 (fun _=>none)/\fA w w':=by
 have a:=@run_makeMap prog;go_enter func223,ntmps223;go_wp2_with fail;refine bodyPost_ret (v:=.agg #[.map (some (w.heap.size+1)),.bool false]) (by simp[results,results223,go_sem]) rfl ⟨w.heap.size+1,rfl,by omega,?_,?_⟩
 ·have:=zC.made prog 9 (w.alloc (.cells #[.map (some (w.heap.size+1)),.bool false] 301));simpa using this
 ·exact((Below.refl _ w).alloc Zl _).alloc FA _
theorem kg(p n c:Nat)(A:vA)(tl:Bool)(td:List qA)(s:qA)(w:World){r:Bool}(hr:r=true↔tl=true/\n<8/\s∉td)(h1:w.cell? (cA p 1)=some (.bool tl))(h2:w.cell? (cA p 2)=some (.slice A n c))
 (hn:td.length=n) (hn2:n<=1000000) (H:uI.AA w w.heap.size A td):
 jA 250 #[lA p,bA s] w fun e w'=>e= .returned (.bool r)/\w=w':=by
 have g:=Zh H;have i:=Zh hn;clear H hn;cases tl with
 |false=>
  obtain rfl:r=false:=by cases r with|true=>exact absurd (hr.1 rfl).1 pA|false=>rfl
  clear hr;go_enter func250,ntmps250;go_wp2_with fail;go_ret;exact⟨rfl,rfl⟩
 |true=>
  by_cases j:n<8
  ·have k:(n:Int)<8:=dA;by_cases b:s∈td
   ·obtain rfl:r=false:=by cases r with|true=>exact absurd b (hr.1 rfl).2.2|false=>rfl
    have d:Hid (∀a:World,uI.AA a a.heap.size A td->jA 266 #[.slice A n c,bA s] a fun e w'=>e= .returned (.bool true)/\a=w'):=Zh (fun a f=>fX td s A n c a ⟨fun _=>b,fun _=>rfl⟩ i hn2 f);clear hr b;go_enter func250,ntmps250;go_wp2_with fail;refine PA (d _ g) ?_;go_wp2_with fail;go_ret;exact⟨rfl,rfl⟩
   ·obtain rfl:r=true:=hr.2 ⟨rfl,j,b⟩;have d:Hid (∀a:World,uI.AA a a.heap.size A td->jA 266 #[.slice A n c,bA s] a fun e w'=>e= .returned (.bool false)/\a=w'):=Zh (fun a f=>fX td s A n c a ⟨fun e=>(by cases e),fun e=>absurd e b⟩ i hn2 f);clear hr b;go_enter func250,ntmps250;go_wp2_with fail;refine PA (d _ g) ?_;go_wp2_with fail;go_ret;exact⟨rfl,rfl⟩
  ·have k:¬(n:Int)<8:=dA;obtain rfl:r=false:=by cases r with|true=>exact absurd (hr.1 rfl).2.1 j|false=>rfl
   clear hr;go_enter func250,ntmps250;go_wp2_with fail;go_ret;exact⟨rfl,rfl⟩
end P13
namespace P16
open Go.RowKit Kd P4 P5 P11 P12 P13 P14 Mv
theorem Vo:laidOutB prog=true:=by kernel_rfl
theorem Vd:(289:TypeId)<prog.types.size:=of_decide_eq_true (by kernel_rfl)
theorem Sw:(match prog.underlying 289 with|some (.array _ _)|some (.struct _)=>true|_=>false)=true:=by rw[underlying289]
theorem eQ:WideMaps.KeyLaw prog 289:=deep_law_laid Vo (m:=2) dA Vd (by kernel_rfl) Sw
def jD(t k:ByteArray):Lit:=.string (keyBytes [.string t.data.toList,.string k.data.toList])
theorem ey:prog.keyType 289=true:=by kernel_rfl
theorem TZ:prog.cellsOf 289=2:=by kernel_rfl
theorem Yj:prog.cellsOf 9=1:=by kernel_rfl
theorem Tw:∃m,prog.types.size=m+1:=⟨prog.types.size-1,(Nat.succ_pred_eq_of_pos (Nat.lt_of_le_of_lt (Nat.zero_le _) Vd)).symm⟩
theorem VP{tag key:qA}(h1:tag.size<=maxLen)(h2:key.size<=maxLen):keyOf prog 289 (.agg #[.string tag,.string key])=some (jD tag key):=by
 obtain⟨m,a⟩:=Tw;unfold keyOf;simp only[underlying289];rw[if_pos (by simp[ey,Value.formed,underlying289,TZ]),a];unfold Program.keyLits;simp only[underlying289,Value.cells];rw[if_pos (by rw[TZ];exact⟨rfl,by simp⟩)];simp[Yj,Program.keyLits,underlying9,h1,h2,jD]
theorem Sc{t k t' k':qA}(h1:t.size<=maxLen)(h2:k.size<=maxLen)(h3:t'.size<=maxLen)(h4:k'.size<=maxLen)(h:jD t k=jD t' k'):t=t'/\k=k':=by
 have:=eQ.inj (VP h1 h2) (by rw[h];exact VP h3 h4);simpa using this
theorem Mb(w:World):(zeroValue 3).run prog w= .ok (aA 0) w:=by kernel_rfl
def MM(o:Option Value)(a:Int):Prop:=(o=none/\a = -1)\/o=some (aA a)
def LS(old:List Ol)(left:List Bool)(f:Lit->Option Value):Prop:=∀t k:qA,t.size<=maxLen->k.size<=maxLen->t.toList.isEmpty=false->k.toList.isEmpty=false->
 ∃i:Nat,MM (f (jD t k)) (MF old t k i)/\∀(j:Nat) (h:j<old.length),j<i->bG t k old[j]=true->left[j]? = some false
def Wd(old:List Ol)(nl:List Int)(i:Nat):Prop:=∀(j:Nat) (h:j<old.length),i<=j->old[j].tag.toList.isEmpty=false->old[j].key.toList.isEmpty=false->nl[j]? = some (MF old old[j].tag old[j].key (j+1))
def QW(A:vA)(n c g F m h:Nat):Obj:=.cells #[.slice A n c,.slice (some (cA g 0)) n n,aA (F:Int),.map (some m),.slice (some (cA h 0)) n n] 313 (0,0)
structure Lf(w:World)(B p g h m:Nat)(A:vA)(n c:Nat)(old:List Ol)(left:List Bool)(F s:Nat)(f:Lit->Option Value)(nl:List Int):Prop where
 zA:w.heap[p]? = some (QW A n c g F m h)
 Bp:B<=p
 Bm:B<=m
 YF:kO.AA w B A old
 own:lL.Own w B (.slice (some (cA g 0)) n n) (left.map not)
 nx:kI.Own w B (.slice (some (cA h 0)) n n) nl
 map:zC prog 289 w m s s f
 sz:s<=1000
 len:old.length=n
 IM:left.length=n
 small:n<=1000
 fy:∀o∈old,o.tag.size<=maxLen/\o.key.size<=maxLen
 front:F<=n
 gone:∀i:Nat,i<F->left[i]? = some false
 nm:LS old left f
 aJ:Wd old nl 0
def W3(p g m:Nat)(k:Nat):Prop:=k=p\/k=g\/k=m
section
variable{w w':World}{B p g h m:Nat}{A:vA}{n c:Nat}{old:List Ol}{left:List Bool}{F s:Nat}{f:Lit->Option Value}{nl:List Int}
theorem SJ{k:TypeId}{b n s:Nat}{f:Lit->Option Value}(h:zC prog k w b n s f){g:Nat}{cur:Array Value}{t:TypeId}{fr:Nat×Nat}(h':w.heap[g]? = some (.cells cur t fr)):g≠b:=fun e=>by
 obtain⟨c,d,a⟩:=h.zA;exact UK a h' e.symm
theorem Lf.WS(x:Lf w B p g h m A n c old left F s f nl):∃cur,w.heap[g]? = some (.cells cur 4 (0,0)):=x.own.ty rfl
theorem Lf.UW(x:Lf w B p g h m A n c old left F s f nl):∃cur,w.heap[h]? = some (.cells cur 3 (0,0)):=x.nx.ty rfl
theorem Lf.pg(x:Lf w B p g h m A n c old left F s f nl):p≠g:=by obtain⟨a,b⟩:=x.WS;exact WA x.zA b pA
theorem Lf.ph(x:Lf w B p g h m A n c old left F s f nl):p≠h:=by obtain⟨a,b⟩:=x.UW;exact WA x.zA b pA
theorem Lf.gh(x:Lf w B p g h m A n c old left F s f nl):g≠h:=by obtain⟨d,e⟩:=x.UW;obtain⟨b,a⟩:=x.WS;exact WA a e pA
theorem Lf.pm(x:Lf w B p g h m A n c old left F s f nl):p≠m:=SJ x.map x.zA
theorem Lf.gm(x:Lf w B p g h m A n c old left F s f nl):g≠m:=by obtain⟨a,b⟩:=x.WS;exact SJ x.map b
theorem Lf.hm(x:Lf w B p g h m A n c old left F s f nl):h≠m:=by obtain⟨a,b⟩:=x.UW;exact SJ x.map b
theorem Lf.Bg(x:Lf w B p g h m A n c old left F s f nl):B<=g:=(x.own.lt rfl).1
theorem Lf.GJ(x:Lf w B p g h m A n c old left F s f nl):p<w.heap.size:=JA x.zA
theorem Lf.le(x:Lf w B p g h m A n c old left F s f nl):B<=w.heap.size:=by have:=x.GJ;have:=x.Bp;omega
theorem Lf.but{S:Nat->Prop}(x:Lf w B p g h m A n c old left F s f nl)(hb:iA S w w')(hS:∀i,S i->B<=i/\i≠p/\i≠g/\i≠h/\i≠m):Lf w' B p g h m A n c old left F s f nl:=by
 have a:∀i,i<w.heap.size->i=p\/i=g\/i=h\/i=m->w'.heap[i]? = w.heap[i]?:=fun i d e=>hb.block i d (fun j=>by
  obtain⟨_,l,o,q,r⟩:=hS i j;rcases e with e|e|e|e<;>contradiction)
 exact {x with
  zA:=(a p x.GJ (.inl rfl)).trans x.zA
  YF:=x.YF.VB (fun b _ k=>hb.block b (IA x.le) (fun j=>by have:=(hS b j).1;omega))
  own:=x.own.VB (fun i d=>a i (x.own.lt d).2 (.inr (.inl (Option.some.inj d).symm)))
  nx:=x.nx.VB (fun i d=>a i (x.nx.lt d).2 (.inr (.inr (.inl (Option.some.inj d).symm))))
  map:=x.map.kept (a m x.map.lt (.inr (.inr (.inr rfl))))}
theorem Lf.below{C:Nat}(x:Lf w B p g h m A n c old left F s f nl)(hb:Below C w w')(h1:B<=C)(h2:p<C)(h3:g<C)(h4:h<C)(h5:m<C):Lf w' B p g h m A n c old left F s f nl:=
 x.but (S:=fun i=>C<=i) ⟨hb.os,hb.tape,hb.output,hb.size,fun i _ a=>hb.block i dA⟩ (fun i b=>by omega)
theorem Lf.on(x:Lf w B p g h m A n c old left F s f nl)(hb:fA w w'):Lf w' B p g h m A n c old left F s f nl:=
 x.below hb x.le x.GJ (x.own.lt rfl).2 (x.nx.lt rfl).2 x.map.lt
theorem Lf.drewN(x:Lf w B p g h m A n c old left F s f nl)(k:Nat):Lf (w.drewN k) B p g h m A n c old left F s f nl:=x.on (OC Ze k)
theorem Lf.alloc(x:Lf w B p g h m A n c old left F s f nl)(o:Obj):Lf (w.alloc o) B p g h m A n c old left F s f nl:=x.on (Ze.alloc Zl o)
theorem Lf.nL(x:Lf w B p g h m A n c old left F s f nl){B':Nat}{v:Value}{l:List Int}(hv:kI.Own w B' v l):∀i,v.ownBlock=some i->¬W3 p g m i:=fun i d e=>by
 obtain⟨j,a⟩:=hv.ty d;obtain⟨b,k⟩:=x.WS;rcases e with rfl|rfl|rfl
 ·exact WA x.zA a pA rfl
 ·exact WA k a pA rfl
 ·exact SJ x.map a rfl
theorem Lf.c0(x:Lf w B p g h m A n c old left F s f nl):w.cell? (cA p 0)=some (.slice A n c):=cell_of_row w p 0 _ _ (0,0) x.zA
theorem Lf.c1(x:Lf w B p g h m A n c old left F s f nl):w.cell? (cA p 1)=some (.slice (some (cA g 0)) n n):=cell_of_row w p 1 _ _ (0,0) x.zA
theorem Lf.c2(x:Lf w B p g h m A n c old left F s f nl):w.cell? (cA p 2)=some (aA (F:Int)):=cell_of_row w p 2 _ _ (0,0) x.zA
theorem Lf.c3(x:Lf w B p g h m A n c old left F s f nl):w.cell? (cA p 3)=some (.map (some m)):=cell_of_row w p 3 _ _ (0,0) x.zA
theorem Lf.c4(x:Lf w B p g h m A n c old left F s f nl):w.cell? (cA p 4)=some (.slice (some (cA h 0)) n n):=cell_of_row w p 4 _ _ (0,0) x.zA
theorem Lf.fz(x:Lf w B p g h m A n c old left F s f nl)(o:Nat):w.frozen? (cA p o)=false:=by
 have a:=x.zA;unfold QW at a;simp[World.frozen?,a]
theorem Lf.taken(x:Lf w B p g h m A n c old left F s f nl){i:Nat}(hi:i<n):∃b,left[i]? = some b/\w.cell? (cA g i)=some (.bool (!b))/\w.frozen? (cA g i)=false:=by
 have a:i<left.length:=(IA x.IM);obtain⟨d,e,_⟩:=M7 x.own (k:=i) (by simpa using a);exact⟨left[i],List.getElem?_eq_getElem a,by simpa using d,e⟩
theorem Lf.next(x:Lf w B p g h m A n c old left F s f nl){i:Nat}(hi:i<old.length)(h1:old[i].tag.toList.isEmpty=false)(h2:old[i].key.toList.isEmpty=false):w.cell? (cA h i)=some (aA (MF old old[i].tag old[i].key (i+1))):=by
 obtain⟨t,u,v,l,j,_,_,_,q⟩:=x.nx.slice;injection l with h3 h4 h5;subst h3;subst h4;subst h5;have r:=x.aJ i hi (Nat.zero_le _) h1 h2;obtain⟨a,d⟩:=List.getElem?_eq_some_iff.1 r;obtain⟨b,o,e,_,k⟩:=yE q a;injection e with e;injection e with j e2 _;subst j;subst e2;rw[d] at k;simpa using k
theorem map_set{left:List Bool}{i:Nat}:(left.map not).set i true=(left.set i false).map not:=by
 rw[List.map_set];rfl
theorem T8{left:List Bool}{i j:Nat}(hj:left[j]? = some false):(left.set i false)[j]? = some false:=by
 rw[List.getElem?_set];have a:j<left.length:=(List.getElem?_eq_some_iff.1 hj).1;by_cases e:i=j
 ·subst e;rw[if_pos rfl,if_pos a]
 ·rw[if_neg e];exact hj
theorem LS.mono{left':List Bool}(hn:LS old left f)(hm:∀j:Nat,left[j]? = some false->left'[j]? = some false):LS old left' f:=fun t k a b c d=>by
 obtain⟨i,e,g⟩:=hn t k a b c d;exact⟨i,e,fun j h l m=>hm j (g j h l m)⟩
theorem Lf.step(x:Lf w B p g h m A n c old left F s f nl)(hF:F<n)(hl:left[F]? = some false):Lf (w.setCell (cA p 2) (aA ((F:Int)+1))) B p g h m A n c old left (F+1) s f nl:=by
 have d:iA (fun k=>k=p) w (w.setCell (cA p 2) (aA ((F:Int)+1))):=jJ w p 2 _;have j:∀i,i<w.heap.size->i≠p->(w.setCell (cA p 2) (aA ((F:Int)+1))).heap[i]? = w.heap[i]?:=fun i a l=>d.block i a l
 exact {x with
  zA:=heap_set x.zA 2 _
  YF:=x.YF.VB (fun b _ o=>j b (IA x.le) (fun e=>by have:=x.Bp;omega))
  own:=x.own.but d (fun i a e=>x.pg (by rw[<-e];exact Option.some.inj a.symm))
  nx:=x.nx.but d (fun i a e=>x.ph (by rw[<-e];exact Option.some.inj a.symm))
  map:=x.map.kept (j m x.map.lt (fun e=>x.pm e.symm))
  front:=hF
  gone:=fun i a=>by
   by_cases e:i=F
   ·subst e;exact hl
   ·exact x.gone i dA}
theorem Lf.take(x:Lf w B p g h m A n c old left F s f nl){i:Nat}(hi:i<n):Lf (w.setCell (cA g i) (.bool true)) B p g h m A n c old (left.set i false) F s f nl:=by
 have o:iA (fun k=>k=g) w (w.setCell (cA g i) (.bool true)):=jJ w g i _;have l:∀j,j<w.heap.size->j≠g->(w.setCell (cA g i) (.bool true)).heap[j]? = w.heap[j]?:=fun j a q=>o.block j a q
 have r:i<left.length:=(IA x.IM);obtain⟨_,_,d⟩:=M7 x.own (k:=i) (by simpa using r);have d:=d true;rw[map_set] at d;exact {x with
  zA:=(l p x.GJ x.pg).trans x.zA
  YF:=x.YF.VB (fun b _ t=>l b (IA x.le) (fun e=>by have:=x.Bg;omega))
  own:=d
  nx:=x.nx.but o (fun j a e=>x.gh (by rw[<-e];exact Option.some.inj a.symm))
  map:=x.map.kept (l m x.map.lt (fun e=>x.gm e.symm))
  IM:=by rw[List.length_set];exact x.IM
  gone:=fun j a=>T8 (x.gone j a)
  nm:=x.nm.mono (fun j a=>T8 a)}
theorem Lf.name(x:Lf w B p g h m A n c old left F s f nl){t k:qA}{a:Int}(ht:t.size<=maxLen)(hk:k.size<=maxLen)(hs:(f (jD t k)).isSome=true)(i:Nat)(ha:MF old t k i=a)(hi:∀(j:Nat) (h:j<old.length),j<i->bG t k old[j]=true->left[j]? = some false)
 (hm:zC prog 289 w' m (s+1) (if(f (jD t k)).isSome then s else s+1) (kK f (jD t k) (some (aA a)))) (hg:w.grownBy w' (some m)):Lf w' B p g h m A n c old left F s (kK f (jD t k) (some (aA a))) nl:=by
 have l:iA (fun k=>k=m) w w':=iA.WG hg (fun j d _=>(Option.some.inj d).symm);rw[if_pos hs] at hm;exact {x with
  zA:=(l.block p x.GJ x.pm).trans x.zA
  YF:=x.YF.VB (fun b _ v=>l.block b (IA x.le) (fun e=>by have:=x.Bm;omega))
  own:=x.own.but l (fun j d e=>x.gm (by rw[<-e];exact Option.some.inj d))
  nx:=x.nx.but l (fun j d e=>x.hm (by rw[<-e];exact Option.some.inj d))
  map:=hm.tight
  nm:=fun o q r u y z=>by
   by_cases e:jD o q=jD t k
   ·obtain⟨rfl,rfl⟩:=Sc r u ht hk e;exact⟨i,.inr (by rw[(YL f _ _).1,ha]),hi⟩
   ·rw[(YL f _ _).2 _ e];exact x.nm o q r u y z}
end
end P16
namespace P17
open Go.RowKit Kd P4 P5 P11 P12 P13 P14 P16
section
variable{P:Program}{α:Type}{K:Kind P α}{w w':World}{Q R S:Nat->Prop}{A:vA}{l:List α}{C:Nat}
end
section
variable{w w':World}{Q R S:Nat->Prop}{t:P8.TV}{C:Nat}
end
end P17
namespace P12
open Go.RowKit Kd P4 P5 P11
theorem LY(op:Int)(w:World):jA 221 #[aA op] w fun e w'=>e= .returned (aA (RF op:Nat))/\w=w':=by
 by_cases b:op=1
 ·subst b;go_enter func221,ntmps221;go_wp2_with fail;go_ret;exact⟨rfl,rfl⟩
 by_cases c:op=3
 ·subst c;go_enter func221,ntmps221;go_wp2_with fail;go_ret;exact⟨rfl,rfl⟩
 by_cases d:op=5
 ·subst d;go_enter func221,ntmps221;go_wp2_with fail;go_ret;exact⟨rfl,rfl⟩
 by_cases f:op=6
 ·subst f;go_enter func221,ntmps221;go_wp2_with fail;go_ret;exact⟨rfl,rfl⟩
 by_cases a:op=4
 ·subst a;go_enter func221,ntmps221;go_wp2_with fail;go_ret;exact⟨rfl,rfl⟩
 have g:Hid (RF op=0):=Zh (by unfold RF;rw[if_neg dA,if_neg a]);have i:=int_ne b;have j:=int_ne c;have k:=int_ne a;have l:=int_ne d;have m:=int_ne f;go_enter func221,ntmps221;go_wp2_with fail;go_ret;exact⟨by rw[g.out];rfl,rfl⟩
def IW(w:World)(C:Nat)(p:Option (uA×uA))(e:Ending)(w':World):Prop:=
 ((p=none/\e= .returned (.tuple #[oA,tA,.bool false]))\/
   ∃t r A n c,p=some (t,r)/\e= .returned (.tuple #[bA (bs t),.slice A n c,.bool true])/\r.length=n/\n<=c/\c<=maxLen/\kB.AA w C A r)/\fA w w'
theorem tQ(l:uA)(A:vA)(n c C:Nat)(w:World)(hh:kB.AA w C A l)(hC:C<=w.heap.size)(hn:l.length=n)(qD:n<=c)(hl:n<=100000)(UC:c<=maxLen):jA 222 #[.slice A n c] w (IW w C (gG l)):=by
 have s:=Zh hh;have u:=Zh hn;have E:c<=9223372036854775807:=(by unfold maxLen at UC;omega);by_cases I:n=0
 ·subst I;have x:Hid (gG l=none):=Zh (by rw[List.eq_nil_of_length_eq_zero hn];rfl);clear hh hn;go_enter func222,ntmps222;go_wp2_with fail;go_ret3;exact⟨.inl ⟨x,rfl⟩,Ze⟩
 have j:0<l.length:=dA;obtain⟨b,o,rfl,R,F⟩:=EZ hh j;simp only[Nat.add_zero] at F;have p:=Zh (lM j);rw[List.drop_zero] at p;obtain⟨y,G⟩:=DA (l[0].toNat);have J:=l[0].toNat_lt;rw[G] at F J p;clear G hn hh j UC;have K:IntKind.i64.wrap (y:Int)=(y:Int):=by
  simp[IntKind.wrap,IntKind.bits,IntKind.signed];omega
 have S:((n:Int)==0)=false:=jB;have T:(0:Int)<(n:Int):=dA;by_cases g:n<0+1+y
 ·have x:Hid (gG l=none):=Zh (by rw[p.out,if_pos (by rw[u.out];exact g)]);have L:decide ((n:Int)-1<(y:Int))=true:=jB;go_enter func222,ntmps222;go_wp2_with fail;go_ret3;exact⟨.inl ⟨x,rfl⟩,Ze⟩
 ·obtain⟨e,M⟩:=DA (1+y);have i:((l.drop (0+1)).take y).length=e-1:=(by rw[List.length_take,List.length_drop,u.out];omega);obtain⟨t,v⟩:=DA ((l.drop (0+1)).take y);have z:Hid ((l.drop 1).take (e-1)=t):=Zh (by rw[<-v,show e-1=y by omega]);rw[v] at i;have B:Hid (gG l=some (t,l.drop e)):=Zh (by rw[p.out,if_neg (by rw[u.out];exact g),v,show 0+1+y=e by omega]);have d:Hid ((l.drop e).length+e=n):=Zh (by rw[List.length_drop,u.out];omega);have N:Hid (kB.AA w C (some ⟨b,o+e,none⟩) (l.drop e)):=Zh (by
   have:=s.drop e;simpa[kB] using this)
  have a:Hid (n=e->∀A,kB.AA w C A (l.drop e)):=Zh (fun h A=>by
   have:l.drop e=[]:=List.eq_nil_of_length_eq_zero (IA d.out);rw[this];exact Kind.AA.nil _ _ _)
  clear v p;have L:decide ((n:Int)-1<(y:Int))=false:=jB;have U:(1:Int)<=(e:Int):=dA;have V:(e:Int)<=(n:Int):=dA;have W:(0:Int)<=(e:Int):=dA;have X:(e:Int)<=(c:Int):=dA;have Y:(n:Int)<=(c:Int):=dA;have Z:IntKind.i64.wrap ((1:Int)+(y:Int))=(e:Int):=by
   rw[<-M];simp[IntKind.wrap,IntKind.bits,IntKind.signed];omega
  have H:Hid (∀f k,kB.AA f C (some (cA b o)) l->(convert 33 9 (.slice (some ⟨b,o+1,none⟩) (e-1) k)).run prog f= .ok (bA (bs t)) f):=Zh (fun f k h=>mb (cap:=k) h 1 i z);have O:Hid (e=1->∀f,kB.AA f C (some (cA b o)) l->(convert 33 9 (.slice (some (cA b o)) 0 0)).run prog f= .ok (bA (bs t)) f):=Zh (fun h1 f h=>by
   have q:t=[]:=List.eq_nil_of_length_eq_zero dA;have:=mb (cap:=0) (n:=0) h 0 (t:=t) (by rw[q];rfl) (by rw[q,List.take_zero]);simpa only[Nat.add_zero] using this)
  by_cases r:c=e
  ·subst r;obtain rfl:n=c:=dA
   by_cases D:n=1
   ·subst D;obtain rfl:y=0:=dA
    have m:=Zh (a rfl);clear a;go_enter func222,ntmps222;go_upto_region 4 with fail;go_region_held3 (fun w'=>(convert 33 9 (.slice (some (cA b o)) 0 0)).run prog w'= .ok (bA (bs t)) w') (first|go_keep|exact O rfl _ s.drew) (fail)
    all_goals (go_wp2_with fail)
    all_goals go_ret3
    all_goals exact⟨.inr ⟨t,_,_,_,_,B,rfl,by have:=d.out;omega,by omega,by unfold maxLen;omega,m _⟩,OC Ze _⟩
   ·have m:=Zh (a rfl);clear a;go_enter func222,ntmps222;go_upto_region 4 with fail;go_region_held3 (fun w'=>(convert 33 9 (.slice (some ⟨b,o+1,none⟩) (n-1) (n-1))).run prog w'= .ok (bA (bs t)) w') (first|go_keep|exact H _ _ s.drew) (fail)
    all_goals (go_wp2_with fail)
    all_goals go_ret3
    all_goals exact⟨.inr ⟨t,_,_,_,_,B,rfl,by have:=d.out;omega,by omega,by unfold maxLen;omega,m _⟩,OC Ze _⟩
  ·have P:¬c=1:=dA;have Q:¬c-1=0:=dA;clear a;go_enter func222,ntmps222;go_upto_region 4 with fail;go_region_held3 (fun w'=>(convert 33 9 (.slice (some ⟨b,o+1,none⟩) (e-1) (c-1))).run prog w'= .ok (bA (bs t)) w') (first|go_keep|exact H _ _ s.drew) (fail)
   all_goals (go_wp2_with fail)
   all_goals go_ret3
   all_goals exact⟨.inr ⟨t,_,_,_,_,B,rfl,by have:=d.out;omega,by omega,by unfold maxLen;omega,N⟩,OC Ze _⟩
theorem uL{w w9:World}{C B:Nat}{A:vA}{l:uA}(h:kB.AA w9 C A l)(hb:Below B w w9)(hC:C<=B):kB.AA w C A l:=h.VB fun b _ a=>(hb.block b dA).symm
def mK(w:World)(C:Nat)(p:Option (In×uA))(e:Ending)(w':World):Prop:=
 ((p=none/\∃i:In,e= .returned (.tuple #[.agg #[aA i.op,bA i.a,bA i.b],tA,.bool false]))\/
   ∃(i:In) (r:uA) (A:vA) (n c:Nat),p=some (i,r)/\e= .returned (.tuple #[.agg #[aA i.op,bA i.a,bA i.b],.slice A n c,.bool true])/\r.length=n/\n<=c/\c<=maxLen/\kB.AA w C A r/\i.a.size<=255/\i.b.size<=255)/\fA w w'
theorem mI{b t r:uA}(h:gG b=some (t,r)):r.length<=b.length:=by
 have:=congrArg List.length (OJ h).1;rw[List.length_append] at this;omega
theorem KR(x:UInt8)(r:uA)(A:vA)(n c C:Nat)(w:World)(hh:kB.AA w C A (x:: r))(hC:C<=w.heap.size)(hn:r.length+1=n)(qD:n<=c)(hl:n<=100000)(UC:c<=maxLen):jA 197 #[.slice A n c] w (mK w C (jE x r)):=by
 have KL:=Zh hn;obtain⟨b,o,rfl,hb,g0⟩:=EZ hh (k:=0) FA;have HD:Hid (kB.AA w C (some ⟨b,o+1,none⟩) r):=Zh (by
  have:=hh.drop 1;simpa[kB] using this)
 have g0:w.cell? ⟨b,o+0,none⟩=some (.int .u8 (x.toNat:Int)):=g0;have B0:Hid (fA w (w.alloc (.cells #[aA 0,oA,oA] 183))):=Zh (Zb _ _);have Z0:Hid (XB (w.alloc (.cells #[aA 0,oA,oA] 183)) w.heap.size zX):=Zh (XB.new w zX);have a3:IntKind.i64.wrap (x.toNat:Int)=(x.toNat:Int):=by
  have:=x.toNat_lt;simp[IntKind.wrap,IntKind.bits,IntKind.signed];omega
 have a5:c<=9223372036854775807:=(by unfold maxLen at UC;omega);have a4:b<w.heap.size:=dA;have h0:0<n:=dA;have U:=Zh hC;clear hh hn UC hC;go_enter func197,ntmps197;go_upto_region 1 with fail;have g0:=(B0.cell (p:=⟨b,o+0,none⟩) a4).trans g0;simp only[Nat.add_zero] at g0;generalize w.alloc (.cells #[aA 0,oA,oA] 183)=W at B0 Z0 g0|-;have i0:(0:Int)<(n:Int):=dA;go_upto_region 2 with fail;have F:Hid (XB (W.alloc (.cells #[aA (x.toNat:Int),oA,oA] 183)) W.heap.size ⟨x.toNat,⟨#[]⟩,⟨#[]⟩⟩):=Zh (XB.new W ⟨x.toNat,⟨#[]⟩,⟨#[]⟩⟩);have BA:Hid (fA W (W.alloc (.cells #[aA (x.toNat:Int),oA,oA] 183))):=Zh (Zb _ _);generalize W.alloc (.cells #[aA (x.toNat:Int),oA,oA] 183)=W2 at F BA|-;have G:=Zh (Z0.below BA Z0.lt);have I:=Zh (B0.trans (BA.mono B0.size));have hg:w.heap.size<W.heap.size:=Z0.lt;generalize W.heap.size=g at F hg|-;clear g0 Z0 B0 BA a3;have a6:g≠w.heap.size:=dA;have i1:(1:Int)<=(n:Int):=dA;have i2:(n:Int)<=(c:Int):=dA;by_cases a2:c=1
 ·subst a2;obtain rfl:n=1:=dA
  have hr:r=[]:=List.eq_nil_of_length_eq_zero (IA KL.out);have HR:Hid (kB.AA w C (some (cA b o)) r):=Zh (by rw[hr];exact Kind.AA.nil _ _ _);have RN:Hid (r.length=0):=Zh (by rw[hr];rfl);have X:(0:Nat)<=maxLen:=dA;have Y:(0:Nat)<=0:=dA;have a0:(0:Nat)<=100000:=dA;clear hr HD;have G1:Hid (∀Z,fA w Z->jA 222 #[.slice (some (cA b o)) (0) (0)] Z (IW Z C (gG r))):=Zh (fun Z h=>tQ r _ _ _ C Z (HR.below h U) (Nat.le_trans U h.size) RN Y a0 X);have D:=F.c0;simp only at D;go_wp2_with fail;refine PA (LY (x.toNat:Int) W2) ?_;clear D;have H:=G1 W2 I;clear G1;rcases dT (x.toNat:Int) with e|e|e
  ·rw[e];have J:Hid (jE x r=some (⟨x.toNat,⟨#[]⟩,⟨#[]⟩⟩,r)):=Zh (by unfold jE;rw[if_pos e];rfl);have D:=F.c0;have d:=F.c1;have f:=F.c2;simp only at D d f;have z0:=G.c0;have y:=G.c1;have z:=G.c2;simp only[zX] at z0 y z;have zf:=G.fr;have j:w.heap.size<W2.heap.size:=G.lt;go_wp2_with fail;refine bodyPost_ret (v:=.tuple #[.agg #[aA (x.toNat:Int),bA (⟨#[]⟩),bA (⟨#[]⟩)],.slice (some (cA b o)) (0) (0),.bool true]) (by simp[results,results197,go_sem,z0,y,z,j]) rfl ⟨.inr ⟨_,r,_,_,_,J,rfl,RN,Y,X,HR,by show(⟨#[]⟩:qA).size<=255;decide,by show(⟨#[]⟩:qA).size<=255;decide⟩,pI I⟩
  ·rw[e];cases hc:gG r with
   |none=>
    have J:Hid (jE x r=none):=Zh (by unfold jE;rw[if_neg dA,hc]);rw[hc] at H;clear hc;go_wp2_with fail;refine H.mono ?_;rintro e5 l ⟨a,q⟩;rcases a with⟨_,rfl⟩|⟨_,_,_,_,_,a,_⟩
    rotate_left
    ·cases a
    have s:=Zh (F.below q F.lt);have Q:=Zh (G.below q G.lt);have R:=Zh (I.trans (q.mono I.size));clear q H;have d:=s.c1;have f:=s.c2;have K:=s.fr;simp only at d f;go_upto_region 7 with fail;have m:Hid (XB (l.setCell (cA g 1) (bA (⟨#[]⟩))) g ⟨x.toNat,⟨#[]⟩,⟨#[]⟩⟩):=Zh (heap_set s 1 _);have i:Hid (XB (l.setCell (cA g 1) (bA (⟨#[]⟩))) w.heap.size zX):=Zh ((Below.heap_setCell l _ _ _ (by show w.heap.size≠g;omega)).trans Q);have B:Hid (fA w (l.setCell (cA g 1) (bA (⟨#[]⟩)))):=Zh (R.setCell (p:=(cA g 1)) (by show w.heap.size<=g;omega) _);clear d f K;generalize l.setCell (cA g 1) (bA (⟨#[]⟩))=S at m i B|-;have D:=m.c0;have d:=m.c1;have f:=m.c2;simp only at D d f;have z0:=i.c0;have y:=i.c1;have z:=i.c2;simp only[zX] at z0 y z;have zf:=i.fr;have j:w.heap.size<S.heap.size:=i.lt;go_wp2_with fail;refine bodyPost_ret (v:=.tuple #[.agg #[aA (x.toNat:Int),bA (⟨#[]⟩),bA (⟨#[]⟩)],tA,.bool false]) (by simp[results,results197,go_sem,z0,y,z,j]) rfl ⟨.inl ⟨J,⟨(x.toNat:Int),⟨#[]⟩,⟨#[]⟩⟩,rfl⟩,pI B⟩
   |some p=>
    obtain⟨t,r1⟩:=p;have HT:Hid (t.length<=255):=Zh (OJ hc).2;have L:=Zh hc;rw[hc] at H;clear hc;go_wp2_with fail;refine H.mono ?_;rintro e5 l ⟨a,q⟩;rcases a with⟨a,_⟩|⟨t',r',A3,n3,c3,a,rfl,hr3,hnc3,hcm3,hh3⟩
    ·cases a
    injection a with a;injection a with e1 e2;subst e1;subst e2;have R3:=Zh hr3;have T:=Zh (uL hh3 I U);have s:=Zh (F.below q F.lt);have Q:=Zh (G.below q G.lt);have R:=Zh (I.trans (q.mono I.size));clear q H;clear hh3;have d:=s.c1;have f:=s.c2;have K:=s.fr;simp only at d f;go_upto_region 7 with fail;have m:Hid (XB (l.setCell (cA g 1) (bA (bs t))) g ⟨x.toNat,bs t,⟨#[]⟩⟩):=Zh (heap_set s 1 _);have i:Hid (XB (l.setCell (cA g 1) (bA (bs t))) w.heap.size zX):=Zh ((Below.heap_setCell l _ _ _ (by show w.heap.size≠g;omega)).trans Q);have B:Hid (fA w (l.setCell (cA g 1) (bA (bs t)))):=Zh (R.setCell (p:=(cA g 1)) (by show w.heap.size<=g;omega) _);clear d f K;generalize l.setCell (cA g 1) (bA (bs t))=S at m i B|-;have J:Hid (jE x r=some (⟨x.toNat,bs t,⟨#[]⟩⟩,r1)):=Zh (by unfold jE;rw[if_neg dA,L.out];simp only;rw[if_pos e];rfl);have D:=m.c0;have d:=m.c1;have f:=m.c2;simp only at D d f;have z0:=i.c0;have y:=i.c1;have z:=i.c2;simp only[zX] at z0 y z;have zf:=i.fr;have j:w.heap.size<S.heap.size:=i.lt;go_wp2_with fail;refine bodyPost_ret (v:=.tuple #[.agg #[aA (x.toNat:Int),bA (bs t),bA (⟨#[]⟩)],.slice A3 n3 c3,.bool true]) (by simp[results,results197,go_sem,z0,y,z,j]) rfl ⟨.inr ⟨⟨(x.toNat:Int),bs t,⟨#[]⟩⟩,r1,A3,n3,c3,J,rfl,R3,hnc3,hcm3,T,by show(bs t).size<=255;rw[NF];exact HT,by show(⟨#[]⟩:qA).size<=255;decide⟩,pI B⟩
  ·rw[e];cases hc:gG r with
   |none=>
    have J:Hid (jE x r=none):=Zh (by unfold jE;rw[if_neg dA,hc]);rw[hc] at H;clear hc;go_wp2_with fail;refine H.mono ?_;rintro e5 l ⟨a,q⟩;rcases a with⟨_,rfl⟩|⟨_,_,_,_,_,a,_⟩
    rotate_left
    ·cases a
    have s:=Zh (F.below q F.lt);have Q:=Zh (G.below q G.lt);have R:=Zh (I.trans (q.mono I.size));clear q H;have d:=s.c1;have f:=s.c2;have K:=s.fr;simp only at d f;go_upto_region 7 with fail;have m:Hid (XB (l.setCell (cA g 1) (bA (⟨#[]⟩))) g ⟨x.toNat,⟨#[]⟩,⟨#[]⟩⟩):=Zh (heap_set s 1 _);have i:Hid (XB (l.setCell (cA g 1) (bA (⟨#[]⟩))) w.heap.size zX):=Zh ((Below.heap_setCell l _ _ _ (by show w.heap.size≠g;omega)).trans Q);have B:Hid (fA w (l.setCell (cA g 1) (bA (⟨#[]⟩)))):=Zh (R.setCell (p:=(cA g 1)) (by show w.heap.size<=g;omega) _);clear d f K;generalize l.setCell (cA g 1) (bA (⟨#[]⟩))=S at m i B|-;have D:=m.c0;have d:=m.c1;have f:=m.c2;simp only at D d f;have z0:=i.c0;have y:=i.c1;have z:=i.c2;simp only[zX] at z0 y z;have zf:=i.fr;have j:w.heap.size<S.heap.size:=i.lt;go_wp2_with fail;refine bodyPost_ret (v:=.tuple #[.agg #[aA (x.toNat:Int),bA (⟨#[]⟩),bA (⟨#[]⟩)],tA,.bool false]) (by simp[results,results197,go_sem,z0,y,z,j]) rfl ⟨.inl ⟨J,⟨(x.toNat:Int),⟨#[]⟩,⟨#[]⟩⟩,rfl⟩,pI B⟩
   |some p=>
    obtain⟨t,r1⟩:=p;have HT:Hid (t.length<=255):=Zh (OJ hc).2;have L:=Zh hc;rw[hc] at H;clear hc;go_wp2_with fail;refine H.mono ?_;rintro e5 l ⟨a,q⟩;rcases a with⟨a,_⟩|⟨t',r',A3,n3,c3,a,rfl,hr3,hnc3,hcm3,hh3⟩
    ·cases a
    injection a with a;injection a with e1 e2;subst e1;subst e2;have R3:=Zh hr3;have T:=Zh (uL hh3 I U);have s:=Zh (F.below q F.lt);have Q:=Zh (G.below q G.lt);have R:=Zh (I.trans (q.mono I.size));clear q H;clear hh3;have d:=s.c1;have f:=s.c2;have K:=s.fr;simp only at d f;go_upto_region 7 with fail;have m:Hid (XB (l.setCell (cA g 1) (bA (bs t))) g ⟨x.toNat,bs t,⟨#[]⟩⟩):=Zh (heap_set s 1 _);have i:Hid (XB (l.setCell (cA g 1) (bA (bs t))) w.heap.size zX):=Zh ((Below.heap_setCell l _ _ _ (by show w.heap.size≠g;omega)).trans Q);have B:Hid (fA w (l.setCell (cA g 1) (bA (bs t)))):=Zh (R.setCell (p:=(cA g 1)) (by show w.heap.size<=g;omega) _);clear d f K;generalize l.setCell (cA g 1) (bA (bs t))=S at m i B|-;have V:=tQ r1 A3 n3 c3 C S (T.below B U) (Nat.le_trans U B.size) R3 hnc3 (by have:=R3.out;have:=HT.out;have:=RN.out;have:=mI L;omega) hcm3;cases hc2:gG r1 with
    |none=>
     have J:Hid (jE x r=none):=Zh (by unfold jE;rw[if_neg dA,L.out];simp only;rw[if_neg dA,hc2]);rw[hc2] at V;clear hc2;go_wp2_with fail;refine V.mono ?_;rintro e7 M ⟨a,N⟩;rcases a with⟨_,rfl⟩|⟨_,_,_,_,_,a,_⟩
     rotate_left
     ·cases a
     have O:=Zh (m.below N m.lt);have Z7:=Zh (i.below N i.lt);have B7:=Zh (B.trans (N.mono B.size));clear N V;have d:=O.c1;have f:=O.c2;have K:=O.fr;simp only at d f;go_upto_region 9 with fail;have P:Hid (XB (M.setCell (cA g 2) (bA (⟨#[]⟩))) g ⟨x.toNat,bs t,⟨#[]⟩⟩):=Zh (heap_set O 2 _);have E:Hid (XB (M.setCell (cA g 2) (bA (⟨#[]⟩))) w.heap.size zX):=Zh ((Below.heap_setCell M _ _ _ (by show w.heap.size≠g;omega)).trans Z7);have B8:Hid (fA w (M.setCell (cA g 2) (bA (⟨#[]⟩)))):=Zh (B7.setCell (p:=(cA g 2)) (by show w.heap.size<=g;omega) _);clear d f K;generalize M.setCell (cA g 2) (bA (⟨#[]⟩))=W8 at P E B8|-;have D:=P.c0;have d:=P.c1;have f:=P.c2;simp only at D d f;have z0:=E.c0;have y:=E.c1;have z:=E.c2;simp only[zX] at z0 y z;have zf:=E.fr;have j:w.heap.size<W8.heap.size:=E.lt;go_wp2_with fail;refine bodyPost_ret (v:=.tuple #[.agg #[aA (x.toNat:Int),bA (bs t),bA (⟨#[]⟩)],tA,.bool false]) (by simp[results,results197,go_sem,z0,y,z,j]) rfl ⟨.inl ⟨J,⟨(x.toNat:Int),bs t,⟨#[]⟩⟩,rfl⟩,pI B8⟩
    |some p=>
     obtain⟨u,r2⟩:=p;have HU:Hid (u.length<=255):=Zh (OJ hc2).2;have J:Hid (jE x r=some (⟨x.toNat,bs t,bs u⟩,r2)):=Zh (by unfold jE;rw[if_neg dA,L.out];simp only;rw[if_neg dA,hc2]);rw[hc2] at V;clear hc2;go_wp2_with fail;refine V.mono ?_;rintro e7 M ⟨a,N⟩;rcases a with⟨a,_⟩|⟨t',r',A4,n4,c4,a,rfl,hr4,hnc4,hcm4,hh4⟩
     ·cases a
     injection a with a;injection a with e1 e2;subst e1;subst e2;have R4:=Zh hr4;have a1:=Zh (uL hh4 B U);have O:=Zh (m.below N m.lt);have Z7:=Zh (i.below N i.lt);have B7:=Zh (B.trans (N.mono B.size));clear N V;clear hh4;have d:=O.c1;have f:=O.c2;have K:=O.fr;simp only at d f;go_upto_region 9 with fail;have P:Hid (XB (M.setCell (cA g 2) (bA (bs u))) g ⟨x.toNat,bs t,bs u⟩):=Zh (heap_set O 2 _);have E:Hid (XB (M.setCell (cA g 2) (bA (bs u))) w.heap.size zX):=Zh ((Below.heap_setCell M _ _ _ (by show w.heap.size≠g;omega)).trans Z7);have B8:Hid (fA w (M.setCell (cA g 2) (bA (bs u)))):=Zh (B7.setCell (p:=(cA g 2)) (by show w.heap.size<=g;omega) _);clear d f K;generalize M.setCell (cA g 2) (bA (bs u))=W8 at P E B8|-;have D:=P.c0;have d:=P.c1;have f:=P.c2;simp only at D d f;have z0:=E.c0;have y:=E.c1;have z:=E.c2;simp only[zX] at z0 y z;have zf:=E.fr;have j:w.heap.size<W8.heap.size:=E.lt;go_wp2_with fail;refine bodyPost_ret (v:=.tuple #[.agg #[aA (x.toNat:Int),bA (bs t),bA (bs u)],.slice A4 n4 c4,.bool true]) (by simp[results,results197,go_sem,z0,y,z,j]) rfl ⟨.inr ⟨⟨(x.toNat:Int),bs t,bs u⟩,r2,A4,n4,c4,J,rfl,R4,hnc4,hcm4,a1,by show(bs t).size<=255;rw[NF];exact HT,by show(bs u).size<=255;rw[NF];exact HU⟩,pI B8⟩
 ·have RN:Hid (r.length=n-1):=Zh (IA KL.out);have HR:=HD;have X:c-1<=maxLen:=TG;have Y:n-1<=c-1:=dA;have a0:n-1<=100000:=dA;have a7:¬c-1=0:=dA;clear HD;have G1:Hid (∀Z,fA w Z->jA 222 #[.slice (some ⟨b,o+1,none⟩) (n-1) (c-1)] Z (IW Z C (gG r))):=Zh (fun Z h=>tQ r _ _ _ C Z (HR.below h U) (Nat.le_trans U h.size) RN Y a0 X);have D:=F.c0;simp only at D;go_wp2_with fail;refine PA (LY (x.toNat:Int) W2) ?_;clear D;have H:=G1 W2 I;clear G1;rcases dT (x.toNat:Int) with e|e|e
  ·rw[e];have J:Hid (jE x r=some (⟨x.toNat,⟨#[]⟩,⟨#[]⟩⟩,r)):=Zh (by unfold jE;rw[if_pos e];rfl);have D:=F.c0;have d:=F.c1;have f:=F.c2;simp only at D d f;have z0:=G.c0;have y:=G.c1;have z:=G.c2;simp only[zX] at z0 y z;have zf:=G.fr;have j:w.heap.size<W2.heap.size:=G.lt;go_wp2_with fail;refine bodyPost_ret (v:=.tuple #[.agg #[aA (x.toNat:Int),bA (⟨#[]⟩),bA (⟨#[]⟩)],.slice (some ⟨b,o+1,none⟩) (n-1) (c-1),.bool true]) (by simp[results,results197,go_sem,z0,y,z,j]) rfl ⟨.inr ⟨_,r,_,_,_,J,rfl,RN,Y,X,HR,by show(⟨#[]⟩:qA).size<=255;decide,by show(⟨#[]⟩:qA).size<=255;decide⟩,pI I⟩
  ·rw[e];cases hc:gG r with
   |none=>
    have J:Hid (jE x r=none):=Zh (by unfold jE;rw[if_neg dA,hc]);rw[hc] at H;clear hc;go_wp2_with fail;refine H.mono ?_;rintro e5 l ⟨a,q⟩;rcases a with⟨_,rfl⟩|⟨_,_,_,_,_,a,_⟩
    rotate_left
    ·cases a
    have s:=Zh (F.below q F.lt);have Q:=Zh (G.below q G.lt);have R:=Zh (I.trans (q.mono I.size));clear q H;have d:=s.c1;have f:=s.c2;have K:=s.fr;simp only at d f;go_upto_region 7 with fail;have m:Hid (XB (l.setCell (cA g 1) (bA (⟨#[]⟩))) g ⟨x.toNat,⟨#[]⟩,⟨#[]⟩⟩):=Zh (heap_set s 1 _);have i:Hid (XB (l.setCell (cA g 1) (bA (⟨#[]⟩))) w.heap.size zX):=Zh ((Below.heap_setCell l _ _ _ (by show w.heap.size≠g;omega)).trans Q);have B:Hid (fA w (l.setCell (cA g 1) (bA (⟨#[]⟩)))):=Zh (R.setCell (p:=(cA g 1)) (by show w.heap.size<=g;omega) _);clear d f K;generalize l.setCell (cA g 1) (bA (⟨#[]⟩))=S at m i B|-;have D:=m.c0;have d:=m.c1;have f:=m.c2;simp only at D d f;have z0:=i.c0;have y:=i.c1;have z:=i.c2;simp only[zX] at z0 y z;have zf:=i.fr;have j:w.heap.size<S.heap.size:=i.lt;go_wp2_with fail;refine bodyPost_ret (v:=.tuple #[.agg #[aA (x.toNat:Int),bA (⟨#[]⟩),bA (⟨#[]⟩)],tA,.bool false]) (by simp[results,results197,go_sem,z0,y,z,j]) rfl ⟨.inl ⟨J,⟨(x.toNat:Int),⟨#[]⟩,⟨#[]⟩⟩,rfl⟩,pI B⟩
   |some p=>
    obtain⟨t,r1⟩:=p;have HT:Hid (t.length<=255):=Zh (OJ hc).2;have L:=Zh hc;rw[hc] at H;clear hc;go_wp2_with fail;refine H.mono ?_;rintro e5 l ⟨a,q⟩;rcases a with⟨a,_⟩|⟨t',r',A3,n3,c3,a,rfl,hr3,hnc3,hcm3,hh3⟩
    ·cases a
    injection a with a;injection a with e1 e2;subst e1;subst e2;have R3:=Zh hr3;have T:=Zh (uL hh3 I U);have s:=Zh (F.below q F.lt);have Q:=Zh (G.below q G.lt);have R:=Zh (I.trans (q.mono I.size));clear q H;clear hh3;have d:=s.c1;have f:=s.c2;have K:=s.fr;simp only at d f;go_upto_region 7 with fail;have m:Hid (XB (l.setCell (cA g 1) (bA (bs t))) g ⟨x.toNat,bs t,⟨#[]⟩⟩):=Zh (heap_set s 1 _);have i:Hid (XB (l.setCell (cA g 1) (bA (bs t))) w.heap.size zX):=Zh ((Below.heap_setCell l _ _ _ (by show w.heap.size≠g;omega)).trans Q);have B:Hid (fA w (l.setCell (cA g 1) (bA (bs t)))):=Zh (R.setCell (p:=(cA g 1)) (by show w.heap.size<=g;omega) _);clear d f K;generalize l.setCell (cA g 1) (bA (bs t))=S at m i B|-;have J:Hid (jE x r=some (⟨x.toNat,bs t,⟨#[]⟩⟩,r1)):=Zh (by unfold jE;rw[if_neg dA,L.out];simp only;rw[if_pos e];rfl);have D:=m.c0;have d:=m.c1;have f:=m.c2;simp only at D d f;have z0:=i.c0;have y:=i.c1;have z:=i.c2;simp only[zX] at z0 y z;have zf:=i.fr;have j:w.heap.size<S.heap.size:=i.lt;go_wp2_with fail;refine bodyPost_ret (v:=.tuple #[.agg #[aA (x.toNat:Int),bA (bs t),bA (⟨#[]⟩)],.slice A3 n3 c3,.bool true]) (by simp[results,results197,go_sem,z0,y,z,j]) rfl ⟨.inr ⟨⟨(x.toNat:Int),bs t,⟨#[]⟩⟩,r1,A3,n3,c3,J,rfl,R3,hnc3,hcm3,T,by show(bs t).size<=255;rw[NF];exact HT,by show(⟨#[]⟩:qA).size<=255;decide⟩,pI B⟩
  ·rw[e];cases hc:gG r with
   |none=>
    have J:Hid (jE x r=none):=Zh (by unfold jE;rw[if_neg dA,hc]);rw[hc] at H;clear hc;go_wp2_with fail;refine H.mono ?_;rintro e5 l ⟨a,q⟩;rcases a with⟨_,rfl⟩|⟨_,_,_,_,_,a,_⟩
    rotate_left
    ·cases a
    have s:=Zh (F.below q F.lt);have Q:=Zh (G.below q G.lt);have R:=Zh (I.trans (q.mono I.size));clear q H;have d:=s.c1;have f:=s.c2;have K:=s.fr;simp only at d f;go_upto_region 7 with fail;have m:Hid (XB (l.setCell (cA g 1) (bA (⟨#[]⟩))) g ⟨x.toNat,⟨#[]⟩,⟨#[]⟩⟩):=Zh (heap_set s 1 _);have i:Hid (XB (l.setCell (cA g 1) (bA (⟨#[]⟩))) w.heap.size zX):=Zh ((Below.heap_setCell l _ _ _ (by show w.heap.size≠g;omega)).trans Q);have B:Hid (fA w (l.setCell (cA g 1) (bA (⟨#[]⟩)))):=Zh (R.setCell (p:=(cA g 1)) (by show w.heap.size<=g;omega) _);clear d f K;generalize l.setCell (cA g 1) (bA (⟨#[]⟩))=S at m i B|-;have D:=m.c0;have d:=m.c1;have f:=m.c2;simp only at D d f;have z0:=i.c0;have y:=i.c1;have z:=i.c2;simp only[zX] at z0 y z;have zf:=i.fr;have j:w.heap.size<S.heap.size:=i.lt;go_wp2_with fail;refine bodyPost_ret (v:=.tuple #[.agg #[aA (x.toNat:Int),bA (⟨#[]⟩),bA (⟨#[]⟩)],tA,.bool false]) (by simp[results,results197,go_sem,z0,y,z,j]) rfl ⟨.inl ⟨J,⟨(x.toNat:Int),⟨#[]⟩,⟨#[]⟩⟩,rfl⟩,pI B⟩
   |some p=>
    obtain⟨t,r1⟩:=p;have HT:Hid (t.length<=255):=Zh (OJ hc).2;have L:=Zh hc;rw[hc] at H;clear hc;go_wp2_with fail;refine H.mono ?_;rintro e5 l ⟨a,q⟩;rcases a with⟨a,_⟩|⟨t',r',A3,n3,c3,a,rfl,hr3,hnc3,hcm3,hh3⟩
    ·cases a
    injection a with a;injection a with e1 e2;subst e1;subst e2;have R3:=Zh hr3;have T:=Zh (uL hh3 I U);have s:=Zh (F.below q F.lt);have Q:=Zh (G.below q G.lt);have R:=Zh (I.trans (q.mono I.size));clear q H;clear hh3;have d:=s.c1;have f:=s.c2;have K:=s.fr;simp only at d f;go_upto_region 7 with fail;have m:Hid (XB (l.setCell (cA g 1) (bA (bs t))) g ⟨x.toNat,bs t,⟨#[]⟩⟩):=Zh (heap_set s 1 _);have i:Hid (XB (l.setCell (cA g 1) (bA (bs t))) w.heap.size zX):=Zh ((Below.heap_setCell l _ _ _ (by show w.heap.size≠g;omega)).trans Q);have B:Hid (fA w (l.setCell (cA g 1) (bA (bs t)))):=Zh (R.setCell (p:=(cA g 1)) (by show w.heap.size<=g;omega) _);clear d f K;generalize l.setCell (cA g 1) (bA (bs t))=S at m i B|-;have V:=tQ r1 A3 n3 c3 C S (T.below B U) (Nat.le_trans U B.size) R3 hnc3 (by have:=R3.out;have:=HT.out;have:=RN.out;have:=mI L;omega) hcm3;cases hc2:gG r1 with
    |none=>
     have J:Hid (jE x r=none):=Zh (by unfold jE;rw[if_neg dA,L.out];simp only;rw[if_neg dA,hc2]);rw[hc2] at V;clear hc2;go_wp2_with fail;refine V.mono ?_;rintro e7 M ⟨a,N⟩;rcases a with⟨_,rfl⟩|⟨_,_,_,_,_,a,_⟩
     rotate_left
     ·cases a
     have O:=Zh (m.below N m.lt);have Z7:=Zh (i.below N i.lt);have B7:=Zh (B.trans (N.mono B.size));clear N V;have d:=O.c1;have f:=O.c2;have K:=O.fr;simp only at d f;go_upto_region 9 with fail;have P:Hid (XB (M.setCell (cA g 2) (bA (⟨#[]⟩))) g ⟨x.toNat,bs t,⟨#[]⟩⟩):=Zh (heap_set O 2 _);have E:Hid (XB (M.setCell (cA g 2) (bA (⟨#[]⟩))) w.heap.size zX):=Zh ((Below.heap_setCell M _ _ _ (by show w.heap.size≠g;omega)).trans Z7);have B8:Hid (fA w (M.setCell (cA g 2) (bA (⟨#[]⟩)))):=Zh (B7.setCell (p:=(cA g 2)) (by show w.heap.size<=g;omega) _);clear d f K;generalize M.setCell (cA g 2) (bA (⟨#[]⟩))=W8 at P E B8|-;have D:=P.c0;have d:=P.c1;have f:=P.c2;simp only at D d f;have z0:=E.c0;have y:=E.c1;have z:=E.c2;simp only[zX] at z0 y z;have zf:=E.fr;have j:w.heap.size<W8.heap.size:=E.lt;go_wp2_with fail;refine bodyPost_ret (v:=.tuple #[.agg #[aA (x.toNat:Int),bA (bs t),bA (⟨#[]⟩)],tA,.bool false]) (by simp[results,results197,go_sem,z0,y,z,j]) rfl ⟨.inl ⟨J,⟨(x.toNat:Int),bs t,⟨#[]⟩⟩,rfl⟩,pI B8⟩
    |some p=>
     obtain⟨u,r2⟩:=p;have HU:Hid (u.length<=255):=Zh (OJ hc2).2;have J:Hid (jE x r=some (⟨x.toNat,bs t,bs u⟩,r2)):=Zh (by unfold jE;rw[if_neg dA,L.out];simp only;rw[if_neg dA,hc2]);rw[hc2] at V;clear hc2;go_wp2_with fail;refine V.mono ?_;rintro e7 M ⟨a,N⟩;rcases a with⟨a,_⟩|⟨t',r',A4,n4,c4,a,rfl,hr4,hnc4,hcm4,hh4⟩
     ·cases a
     injection a with a;injection a with e1 e2;subst e1;subst e2;have R4:=Zh hr4;have a1:=Zh (uL hh4 B U);have O:=Zh (m.below N m.lt);have Z7:=Zh (i.below N i.lt);have B7:=Zh (B.trans (N.mono B.size));clear N V;clear hh4;have d:=O.c1;have f:=O.c2;have K:=O.fr;simp only at d f;go_upto_region 9 with fail;have P:Hid (XB (M.setCell (cA g 2) (bA (bs u))) g ⟨x.toNat,bs t,bs u⟩):=Zh (heap_set O 2 _);have E:Hid (XB (M.setCell (cA g 2) (bA (bs u))) w.heap.size zX):=Zh ((Below.heap_setCell M _ _ _ (by show w.heap.size≠g;omega)).trans Z7);have B8:Hid (fA w (M.setCell (cA g 2) (bA (bs u)))):=Zh (B7.setCell (p:=(cA g 2)) (by show w.heap.size<=g;omega) _);clear d f K;generalize M.setCell (cA g 2) (bA (bs u))=W8 at P E B8|-;have D:=P.c0;have d:=P.c1;have f:=P.c2;simp only at D d f;have z0:=E.c0;have y:=E.c1;have z:=E.c2;simp only[zX] at z0 y z;have zf:=E.fr;have j:w.heap.size<W8.heap.size:=E.lt;go_wp2_with fail;refine bodyPost_ret (v:=.tuple #[.agg #[aA (x.toNat:Int),bA (bs t),bA (bs u)],.slice A4 n4 c4,.bool true]) (by simp[results,results197,go_sem,z0,y,z,j]) rfl ⟨.inr ⟨⟨(x.toNat:Int),bs t,bs u⟩,r2,A4,n4,c4,J,rfl,R4,hnc4,hcm4,a1,by show(bs t).size<=255;rw[NF];exact HT,by show(bs u).size<=255;rw[NF];exact HU⟩,pI B8⟩
theorem qV{w w':World}{b0:uA}{k:Nat}(h:fB b0=([],k))(hk:¬k=0)(hb:fA w w'):aQ w (fB b0) (.returned (.tuple #[tA,.iface 29 (aA (k:Nat))])) w':=by
 have a:QA ((k:Nat):Int)= .iface 29 (aA (k:Nat)):=(by unfold QA;rw[if_neg dA]);rw[h];refine⟨none,0,0,?_,rfl,Zl,by unfold maxLen;omega,fun _=>rfl,Kind.AA.nil _ _ _,hb⟩;show _=Ending.returned (.tuple #[tA,QA ((k:Nat):Int)]);rw[a]
theorem fx:fL:=by
 intro o A n c w hh hn u C hl;have ST:Hid (sW w o (.slice A n c) (tA) w):=Zh ⟨A,n,c,o,none,0,0,[],o.length+1,rfl,rfl,hn,u,C,hl,by omega,by simp,Zh rfl,Zh hh,Zh (Kind.Own.nil kX w _),Zh Ze⟩;clear hh hn u C hl;go_enter func167,ntmps167;go_wp2_with fail;go_loopw [0,4] (fun s0 s4 wr=>sW w o s0 s4 wr) (fun s0 _ _=>match s0 with| .slice _ n _=>n|_=>0)
 case atStart=>exact ST
 case round=>
  obtain⟨A,n,c,x,A',R,c',b,f,rfl,rfl,I,u,C,a0,hf,a6,S,HH,Y,F⟩:=hrel;clear ST;have a7:=Tn Y;by_cases h0:0<n
  ·obtain⟨T,rfl⟩:∃q,f=q+1:=⟨f-1,by omega⟩;cases x with
   |nil=>simp at I;omega
   |cons y r=>
   have U:r.length+1=n:=I;have M:=Zh (KR y r A n c w.heap.size wr (HH.below F Zl) F.size U u a0 C);have Z:Hid (qI (T+1) (y:: r) b=match eK (y:: r) with|none=>([],7)|some (i,r)=>if b.length=120 then([],13) else qI T r (b++[i])):=Zh (by rw[qI,if_neg FA];cases eK (y:: r)<;>rfl);have N:Hid (eK (y:: r)=match jE y r with|none=>none|some (i,D)=>if UB i then some (i,D) else none):=Zh rfl;have BK:Hid (∀i D,eK (y:: r)=some (i,D)->D.length+1<=n):=Zh (fun i D h=>by
    have h1:=congrArg List.length (Fl h).1;have h2:=El i;rw[List.length_append,List.length_cons] at h1;omega)
   clear I U;cases hc:jE y r with
   |none=>
    rw[hc] at M N;have E:Hid (fB o=([],7)):=Zh (by rw[S.out,Z.out,N.out]);clear hc;go_wp2_with fail;refine M.mono ?_;rintro e G ⟨s,O⟩;rcases s with⟨_,⟨j,a,g⟩,rfl⟩|⟨_,_,_,_,_,s,_⟩
    ·have P:=Zh (F.trans (O.mono F.size));clear O M;go_wp2_with fail;go_ret2;exact qV (k:=7) E pA (P.alloc P.size _)
    ·cases s
   |some p=>
    obtain⟨i,D⟩:=p;rw[hc] at M N;clear hc;simp only at N;go_wp2_with fail;refine M.mono ?_;rintro e G ⟨s,O⟩;rcases s with⟨s,_⟩|⟨i',r',A2,n2,c2,s,rfl,hr2,hnc2,hcm2,hh2,hia,hib⟩
    ·cases s
    injection s with s;injection s with e1 e2;subst e1;subst e2;have P:=Zh (F.trans (O.mono F.size));have O2:=Zh (Y.below O Zl);have a1:=Zh (uL hh2 F Zl);have V:=Zh hr2;obtain⟨j,a,g⟩:=i;simp only at hia hib;obtain⟨bm,J⟩:=DA (UB ⟨j,a,g⟩);have CM:Hid (∀W,jA 198 #[.agg #[aA j,bA a,bA g]] W fun e w'=>e= .returned (.bool bm)/\fA W w'):=Zh (fun W=>by
     have:=Tc ⟨j,a,g⟩ W (by show a.size<=_;omega) (by show g.size<=_;omega);rw[J] at this;exact this)
    have X:=Zh J;clear O M hh2 hr2 J Y;go_upto_region 4 with fail;have K:Hid (XB (G.alloc (.cells #[aA j,bA a,bA g] 183)) G.heap.size ⟨j,a,g⟩):=Zh (XB.new G ⟨j,a,g⟩);have BA:Hid (fA G (G.alloc (.cells #[aA j,bA a,bA g] 183))):=Zh (Zb _ _);generalize G.alloc (.cells #[aA j,bA a,bA g] 183)=w3 at K BA|-;have O3:=Zh (O2.below BA Zl);have B3:=Zh (P.trans (BA.mono P.size));have g0:=K.c0;have g1:=K.c1;have g2:=K.c2;simp only at g0 g1 g2;clear BA O2 P;go_wp2_with fail;refine(CM w3).mono ?_;rintro e w4 ⟨rfl,b4⟩;have N4:=Zh (K.below b4 K.lt);have O4:=Zh (O3.below b4 Zl);have B4:=Zh (B3.trans (b4.mono B3.size));have a2:=B4.size;clear b4 O3 B3 K g0 g1 g2 CM;cases bm with
    |false=>
     have E:Hid (fB o=([],7)):=Zh (by rw[S.out,Z.out,N.out,if_neg (by rw[X.out];decide)]);go_wp2_with fail;go_ret2;exact qV (k:=7) E pA B4
    |true=>
     have OS:Hid (eK (y:: r)=some (⟨j,a,g⟩,D)):=Zh (by rw[N.out,if_pos X.out]);by_cases H:b.length=120
     ·have E:Hid (fB o=([],13)):=Zh (by rw[S.out,Z.out,OS.out];exact if_pos H);have q1:((R:Int)==120)=true:=jB;go_wp2_with fail;go_ret2;exact qV (k:=13) E pA B4
     ·have E:Hid (fB o=qI T D (b++[⟨j,a,g⟩])):=Zh (by rw[S.out,Z.out,OS.out];exact if_neg H);have q1:((R:Int)==120)=false:=jB;have L:Hid (n2<n):=Zh (by have:=BK _ _ OS;have:=V.out;omega);have g0:=N4.c0;have g1:=N4.c1;have g2:=N4.c2;simp only at g0 g1 g2;go_upto_region 9 with(at_builtin;refine kX.QF rfl _ _ rfl (v:=.slice A' R c') (l:=b) (m:=[⟨j,a,g⟩]) (B:=w.heap.size) rfl (O4.alloc _) rfl rfl KF (Kind.AA.lit (heap_alloc_new _ _) rfl) jB jB ?_;intro v' w5 d t a3;obtain⟨A5,n5,c5,rfl,e1,e2,e3,e4,e5⟩:=d.slice;have B5:Hid (fA w w5):=Zh ((B4.alloc a2 _).grown t jB (fun k hk=>(O4.lt hk).1));have O5:=Zh d;clear d t a3 e1 e2 e3 e4 e5);have a4:Hid (sW w o (.slice A2 n2 c2) (.slice A5 n5 c5) w5):=Zh ⟨A2,n2,c2,D,A5,n5,c5,b++[⟨j,a,g⟩],T,rfl,rfl,V,hnc2,hcm2,by have:=L.out;omega,by have:=L.out;omega,by simp;omega,E,a1,O5,B5⟩;go_wp2_with fail;go_roundw
      case rel=>exact a4
      case measure=>exact L
  ·obtain⟨T,rfl⟩:∃q,f=q+1:=⟨f-1,by omega⟩;have E:Hid (fB o=(b,0)):=Zh (by rw[S.out,qI,if_pos (List.eq_nil_of_length_eq_zero dA)]);have Q:=Vr Y;have a5:Hid (aQ w (fB o) (.returned (.tuple #[.slice A' R c',.nilIface])) wr):=Zh (by
    rw[E.out];exact⟨A',R,c',rfl,Q.1,Q.2.1,Q.2.2.1,Q.2.2.2.1,Q.2.2.2.2,F⟩)
   clear Q;go_wp2_with fail;go_ret2;exact a5
end P12
namespace P21
open Go.RowKit
def YW(w:World):Prop:=∃cs fr,w.heap[0]? = some (.cells cs 171 fr)
theorem Y9{w:World}{g:Nat}{o:Obj}(h:w.heap[g]? = some o):g<w.heap.size:=by
 rcases Nat.lt_or_ge g w.heap.size with k|k
 ·exact k
 ·rw[Array.getElem?_eq_none k] at h;cases h
def JJ(w:World):Prop:=ErrT w∧Bd.ML w∧YW w
theorem kx{w:World}(k:w.ShapedOpen Tryz.prog):YW w:=by
 obtain⟨cs,hc,_⟩:=k.1 0 #[.nilIface] 171 (of_decide_eq_true (by kernel_rfl)) (by kernel_rfl);exact⟨cs,_,hc⟩
theorem ry{w:World}(h:ErrT w)(k:w.ShapedOpen Tryz.prog):JJ w:=⟨h,Bd.ML.open_ k,kx k⟩
theorem YV{w w':World}(h:ErrT w)(b:Below w.heap.size w w'):ErrT w':=by
 have h1:w.cell? ⟨0,0,none⟩=some (.iface 224 (.agg #[typeHandle Tryz.prog 26])):=h;exact(b.cell (p:=⟨0,0,none⟩) (World.block_lt_of_cell? w ⟨0,0,none⟩ h1)).trans h1
theorem Gd{w w':World}(h:JJ w)(b:Below w.heap.size w w'):JJ w':=by
 refine⟨YV h.1 b,h.2.1.on b,?_⟩;obtain⟨cs,fr,hc⟩:=h.2.2;exact⟨cs,fr,(b.block _ (Y9 hc)).trans hc⟩
end P21
namespace P5
open Go.RowKit Go.ChangeShapes Go.WideShapes Go.Deep Kd P4
theorem mU{P:Program}{α:Type}(K:Kind P α){H:Type}{enc:TypeId×Value->H}{w:World}{cs:List Value}{x:DataW H×List MemPlace}{fuel:Nat}(inh:α)(Wf:α->Prop)
 (hce:P.cellsOf K.e=K.size) (hel:∀fuel cs x,DataW.trod enc P w 0 (fun _=>true) true fuel K.e cs=some x->cs.length=K.size->∃a,cs=K.cs a/\Wf a)
 (hf:DataW.trod enc P w 0 (fun _=>true) true fuel K.t cs=some x):
 ∃A n c l,cs=[.slice A n c]/\l.length=n/\n<=c/\c<=maxLen/\(A=none->c=0)/\(∀a∈l,Wf a)/\K.AA w w.heap.size A l:=by
 rcases open_slice K.ht hf with⟨hcs,_⟩|⟨ad,len,cap,m,n,D,Pl,hcs,hb,hl,hm,hmm,_,hi⟩
 ·exact⟨none,0,0,[],hcs,rfl,Zl,by unfold maxLen;omega,fun _=>rfl,fun _ h=>absurd h FA,Kind.AA.nil _ _ _⟩
 ·have C:m=cap:=(by simpa using hmm);subst C;have s:∀i,i<len->∃x:α,Wf x/\∀j,j<K.size->w.cell? (ad.add (i*K.size+j))=(K.cs x)[j]?:=by
   intro i L;obtain⟨M,I,N⟩:=hi i dA;rw[hce] at I;obtain⟨_,t,d⟩:=World.cells?_some I;obtain⟨x,rfl,O⟩:=hel _ _ _ N t;refine⟨x,O,fun j B=>?_⟩;have:=d j B;rwa[add_add] at this
  have J:Inhabited α:=⟨inh⟩;obtain⟨f,q⟩:=choose_lt s;refine⟨_,_,_,(List.range len).map f,hcs,by simp,hl,hm,fun e=>(by cases e),fun x hx=>?_,fun j u B=>?_⟩
  ·obtain⟨i,E,rfl⟩:=List.mem_map.1 hx;exact(q i (List.mem_range.1 E)).1
  ·have F:j<len*K.size:=by
    have:=(List.getElem?_eq_some_iff.1 B).1;rw[Kind.dI] at this;simpa using this
   have g:=K.zG;have G:K.size*(j/K.size)+j % K.size=j:=Nat.div_add_mod j K.size;have p:j % K.size<K.size:=Nat.mod_lt _ g;have k:j/K.size<len:=(by rw[Nat.div_lt_iff_lt_mul g];exact F);have v:j/K.size*K.size+j % K.size=j:=(by rw[Nat.mul_comm];exact G);have Q:j/K.size<((List.range len).map f).length:=(by simpa using k);have d:=(q _ k).2 _ p;rw[v] at d;have y:=K.fN _ _ Q _ p;rw[v,B] at y;have r:w.cell? (ad.add j)=some u:=(by rw[d,y];simp);have z:ad.spot=Option.none:=by
    have z0:=(q 0 (Nat.lt_of_le_of_lt (Nat.zero_le _) k)).2 0 g;rw[List.getElem?_eq_getElem (by rw[K.len];exact g)] at z0;exact gi (a:=ad) (by simpa[Addr.add] using z0)
   obtain⟨b,o,R⟩:=ad;simp only at z;subst z;rw[add_plain] at r;exact⟨b,o,rfl,block_lt_of_cell r,r⟩
end P5
end Go.Proofs.YtimfajmknmlajaaGreatDoor
